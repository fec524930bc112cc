package state_test

import (
	"bytes"
	"fmt"
	"maps"
	"math"
	"math/rand"
	"slices"
	"strings"

	"wapentake/api"
	"wapentake/config"
	"wapentake/state"
)

// The model tells the document's registry another way: it keeps nothing but a log of what was executed, in which it goes back for a key's value, a client's last reply and the configuration.

const lastNum = 1 << 40

// done is a request that was executed, its reply, and the configuration behind it.
type done struct {
	q api.Request
	a api.Reply
	c api.Config
}

type model struct {
	first api.State // ahead of the log
	log   []done
}

func modelGood(q api.Request) bool {
	long := max(len(q.Op.Key), len(q.Op.Val), len(q.Op.Old))
	return q.Client > 0 && q.Client < 65 && q.Num > 0 && q.Num <= lastNum && q.Op.Kind > 0 && q.Op.Kind < 8 && long < 1025
}

// get: a key's value, as the last one in the log who wrote it left it.
func (m *model) get(key string) (string, bool) {
	for _, d := range slices.Backward(m.log) {
		if d.q.Op.Key != key || d.a.Code != api.OK {
			continue
		}
		switch d.q.Op.Kind {
		case 2, 4:
			return d.q.Op.Val, true
		case 3:
			return "", false
		}
	}
	for _, p := range m.first.Pairs {
		if p.Key == key {
			return p.Val, true
		}
	}
	return "", false
}

// last: a client's last reply.
func (m *model) last(client int) (api.Reply, bool) {
	for _, d := range slices.Backward(m.log) {
		if d.q.Client == client {
			return d.a, true
		}
	}
	for _, a := range m.first.Replies {
		if a.Client == client {
			return a, true
		}
	}
	return api.Reply{}, false
}

func (m *model) config() api.Config {
	if len(m.log) == 0 {
		return m.first.Config
	}
	return m.log[len(m.log)-1].c
}

// keys: all that ever were, of which those that have a value now, rising.
func (m *model) keys() []string {
	all := map[string]int{}
	for _, p := range m.first.Pairs {
		all[p.Key]++
	}
	for _, d := range m.log {
		all[d.q.Op.Key]++
	}
	return slices.DeleteFunc(slices.Sorted(maps.Keys(all)), func(key string) bool {
		_, is := m.get(key)
		return !is
	})
}

// state: the registry that the log makes.
func (m *model) state() api.State {
	s := api.State{Config: m.config()}
	for _, key := range m.keys() {
		val, _ := m.get(key)
		s.Pairs = append(s.Pairs, api.Pair{Key: key, Val: val})
	}
	for client := 1; client <= 64; client++ {
		if a, is := m.last(client); is {
			s.Replies = append(s.Replies, a)
		}
	}
	return s
}

// ask: a request's reply, which is logged if it is executed.
func (m *model) ask(q api.Request) api.Reply {
	a, is := m.last(q.Client)
	if !modelGood(q) {
		return api.Reply{Client: q.Client, Num: q.Num, Code: 1}
	}
	if is && a.Num >= q.Num {
		if a.Num > q.Num {
			return api.Reply{Client: q.Client, Num: q.Num, Code: 8}
		}
		return a
	}
	d := done{q: q, c: m.config()}
	d.a = api.Reply{Client: q.Client, Num: q.Num}
	d.a.Code, d.a.Vals = m.operate(q.Op)
	if q.Op.Kind == 7 && d.a.Code == api.OK {
		d.c, _ = config.Apply(m.config(), q.Op.Change)
	}
	m.log = append(m.log, d)
	return d.a
}

func (m *model) operate(op api.Op) (api.Errno, []string) {
	val, is := m.get(op.Key)
	switch op.Kind {
	case 2:
		if !is && len(m.keys()) > 255 {
			return 11, nil
		}
		return 0, nil
	case 5:
		return 0, slices.DeleteFunc(m.keys(), func(key string) bool { return !strings.HasPrefix(key, op.Key) })
	case 6:
		all := []string{fmt.Sprint(m.config().Epoch)}
		for _, m := range m.config().Members {
			all = append(all, fmt.Sprintf("%d", m.Id))
		}
		return 0, all
	case 7:
		_, e := config.Apply(m.config(), op.Change)
		return e, nil
	}
	switch {
	case !is:
		return 7, nil
	case op.Kind == 1:
		return 0, []string{val}
	case op.Kind == 4 && val != op.Old:
		return 9, []string{val}
	}
	return 0, nil
}

func sameReply(a, b api.Reply) bool {
	return a.Client == b.Client && a.Num == b.Num && a.Code == b.Code && slices.Equal(a.Vals, b.Vals)
}

func sameConfig(a, b api.Config) bool {
	return a.Epoch == b.Epoch && slices.Equal(a.Members, b.Members)
}

// same: whether two states are the same in all; an empty list may be nil or empty.
func same(a, b api.State) bool {
	return slices.Equal(a.Pairs, b.Pairs) && slices.EqualFunc(a.Replies, b.Replies, sameReply) && sameConfig(a.Config, b.Config)
}

// inOrder: whether pairs and replies rise, each once.
func inOrder(s api.State) bool {
	for i := 1; i < len(s.Pairs); i++ {
		if s.Pairs[i-1].Key >= s.Pairs[i].Key {
			return false
		}
	}
	for i := 1; i < len(s.Replies); i++ {
		if s.Replies[i-1].Client >= s.Replies[i].Client {
			return false
		}
	}
	return true
}

// deep: a copy of all of a state, list by list.
func deep(s api.State) api.State {
	c := api.State{Config: api.Config{Epoch: s.Config.Epoch}}
	c.Pairs = append(c.Pairs, s.Pairs...)
	for _, a := range s.Replies {
		c.Replies = append(c.Replies, deepReply(a))
	}
	c.Config.Members = append(c.Config.Members, s.Config.Members...)
	return c
}

func deepReply(a api.Reply) api.Reply {
	var vals []string
	a.Vals = append(vals, a.Vals...)
	return a
}

// told: a state in few words.
func told(s api.State) string {
	var b strings.Builder
	for _, p := range s.Pairs {
		fmt.Fprintf(&b, "%s=%s ", brief(p.Key), brief(p.Val))
	}
	for _, a := range s.Replies {
		fmt.Fprintf(&b, "%s; ", toldReply(a))
	}
	fmt.Fprintf(&b, "epoch %d:", s.Config.Epoch)
	for _, m := range s.Config.Members {
		fmt.Fprintf(&b, " %d", m.Id)
	}
	return b.String()
}

// toldReply: a reply in few words.
func toldReply(a api.Reply) string {
	s := fmt.Sprintf("client %d, %d, code %d:", a.Client, a.Num, a.Code)
	for _, v := range a.Vals {
		s += " " + brief(v)
	}
	return s
}

func toldRequest(q api.Request) string {
	x := q.Op.Change
	return fmt.Sprintf("client %d, %d, kind %d, %s, %s, %s, change %d %d %d height %d", q.Client, q.Num, q.Op.Kind, brief(q.Op.Key), brief(q.Op.Val), brief(q.Op.Old), x.Kind, x.Id, x.New, x.Key.Height)
}

func brief(s string) string {
	if len(s) > 20 {
		return fmt.Sprintf("%q..(%d)", s[:20], len(s))
	}
	return fmt.Sprintf("%q", s)
}

// long: a text of n bytes.
func long(n int) string { return strings.Repeat("x", n) }

func ones() api.Digest { return api.Digest(bytes.Repeat([]byte{255}, 32)) }

// of: a configuration of members of these Ids, in this order.
func of(epoch int, ids ...int) api.Config {
	c := api.Config{Epoch: epoch}
	for _, id := range ids {
		c.Members = append(c.Members, api.Member{Id: id, Key: api.Key{Root: api.Digest{byte(id)}, Height: (id%7 + 7) % 7}})
	}
	return c
}

// asked: a request that can be, of client 1.
func asked(num int, op api.Op) api.Request { return api.Request{Client: 1, Num: num, Op: op} }

func put(key, val string) api.Op { return api.Op{Kind: api.OpPut, Key: key, Val: val} }

// pairsOf: a registry with these pairs, each key ahead of its value.
func pairsOf(texts ...string) api.State {
	s := state.New(of(3, 1, 2, 5))
	for pair := range slices.Chunk(texts, 2) {
		s.Pairs = append(s.Pairs, api.Pair{Key: pair[0], Val: pair[1]})
	}
	return s
}

// many: a registry with n pairs, and with room between their keys.
func many(n int) api.State {
	s := state.New(of(3, 1, 2, 5))
	for i := range n {
		s.Pairs = append(s.Pairs, api.Pair{Key: fmt.Sprintf("%05d", 2*i), Val: fmt.Sprint(i)})
	}
	return s
}

// odd: numbers at the limits of clients, kinds and requests' numbers, beyond them, and what wraps round to them as an int of fewer bits.
func odd() []int {
	return []int{-1, 0, 1, 2, 6, 7, 8, 63, 64, 65, -64, 127, 255, 256, 257, 1024, math.MaxInt32, 1 << 31, 1 << 32, 1<<32 + 1, 1<<40 - 1, 1 << 40, 1<<40 + 1, 1 << 41, -1 << 40, math.MinInt32, -1 << 32, math.MaxInt - 1, math.MaxInt, math.MinInt, math.MinInt + 1}
}

// someKey: one of few keys, that begin with one another and are of any bytes.
func someKey(rnd *rand.Rand) string {
	return []string{"", "a", "ab", "abc", "b", "a\x00", "\xff", "\xff\xff", "a\xff", "ä", "B", "\x00", long(1024)}[rnd.Intn(13)]
}

func someVal(rnd *rand.Rand) string {
	return []string{"", "1", "2", "3", long(1024)}[rnd.Intn(5)]
}

func someChange(rnd *rand.Rand) api.Change {
	x := api.Change{Kind: rnd.Intn(6), Id: rnd.Intn(13), New: rnd.Intn(13), Key: api.Key{Height: rnd.Intn(8)}}
	rnd.Read(x.Key.Root[:])
	return x
}

// someRequest: of few clients; mostly a new one, at times one that is old, that comes again, or that can't be.
func someRequest(rnd *rand.Rand, clients int) api.Request {
	q := api.Request{Client: 1 + rnd.Intn(clients), Num: 1 + rnd.Intn(40)}
	if rnd.Intn(3) == 0 {
		q.Num = 1 + rnd.Intn(lastNum)
	}
	q.Op = api.Op{Kind: 1 + rnd.Intn(7), Key: someKey(rnd), Val: someVal(rnd), Old: someVal(rnd), Change: someChange(rnd)}
	off := odd()[rnd.Intn(len(odd()))]
	switch rnd.Intn(40) {
	case 0:
		q.Client = off
	case 1:
		q.Num = off
	case 2:
		q.Op.Kind = off
	case 3:
		q.Op.Key = long(1025)
	case 4:
		q.Op.Val = long(1025)
	case 5:
		q.Op.Old = long(1025)
	}
	return q
}

// someRise: a request whose number is its client's next, as a client that is right asks.
func someRise(rnd *rand.Rand, nums map[int]int) api.Request {
	q := someRequest(rnd, 64)
	for !modelGood(q) {
		q = someRequest(rnd, 64)
	}
	nums[q.Client] += 1 + rnd.Intn(3)
	q.Num = nums[q.Client]
	return q
}

// someState: a registry in order of any keys, replies and members.
func someState(rnd *rand.Rand) api.State {
	ids := rnd.Perm(12)[:1+rnd.Intn(10)]
	slices.Sort(ids)
	for i := range ids {
		ids[i]++
	}
	s := api.State{Config: of(rnd.Intn(9), ids...)}
	pairs := map[string]string{}
	for range rnd.Intn(9) {
		pairs[someKey(rnd)] = someVal(rnd)
	}
	for _, key := range slices.Sorted(maps.Keys(pairs)) {
		s.Pairs = append(s.Pairs, api.Pair{Key: key, Val: pairs[key]})
	}
	for client := 1; client <= 64; client++ {
		if rnd.Intn(4) == 0 {
			s.Replies = append(s.Replies, api.Reply{Client: client, Num: 1 + rnd.Intn(40), Code: api.Errno(rnd.Intn(12)), Vals: []string{"", "one", "two"}[:rnd.Intn(4)]})
		}
	}
	return s
}
