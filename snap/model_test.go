package snap_test

import (
	"bytes"
	"crypto/sha256"
	"encoding/binary"
	"fmt"
	"math"
	"math/rand"
	"slices"
	"strings"

	"wapentake/api"
)

// The model tells the document's snapshots another way, with Go's own crypto/sha256: it takes bytes for a snapshot's if what it reads, with no limit, can be and makes the same bytes again. Its disk is files as two texts each.

const lastNum = 1 << 40

func hash(texts ...string) api.Digest { return sha256.Sum256([]byte(strings.Join(texts, ""))) }

func text(d api.Digest) string { return string(d[:]) }

func num(list ...int) string {
	var b []byte
	for _, n := range list {
		b = binary.BigEndian.AppendUint64(b, uint64(n))
	}
	return string(b)
}

func texts(list ...string) string {
	var b []byte
	for _, s := range list {
		b = append(binary.BigEndian.AppendUint32(b, uint32(len(s))), s...)
	}
	return string(b)
}

// sealed: bytes behind the digest that a snapshot of them has.
func sealed(body string) string { return text(hash("snap", body)) + body }

// bodyOf: what stands behind a snapshot's digest, whatever its text is.
func bodyOf(height int, tip api.Digest, state string) string {
	return num(height) + text(tip) + texts(state)
}

func modelBytes(s api.Snap) string { return sealed(bodyOf(s.Height, s.Tip, stateBytes(s.State))) }

func stateBytes(s api.State) string {
	var b strings.Builder
	b.WriteString(num(s.Config.Epoch, len(s.Config.Members)))
	for _, m := range s.Config.Members {
		b.WriteString(num(m.Id, m.Key.Height) + text(m.Key.Root))
	}
	b.WriteString(num(len(s.Pairs)))
	for _, p := range s.Pairs {
		b.WriteString(texts(p.Key, p.Val))
	}
	b.WriteString(num(len(s.Replies)))
	for _, a := range s.Replies {
		b.WriteString(num(a.Client, a.Num, int(a.Code), len(a.Vals)) + texts(a.Vals...))
	}
	return b.String()
}

// cursor goes over bytes, and panics where there are too few.
type cursor struct{ rest string }

func (c *cursor) cut(n int) string {
	own := c.rest[:n]
	c.rest = c.rest[n:]
	return own
}

func (c *cursor) num() int { return int(binary.BigEndian.Uint64([]byte(c.cut(8)))) }

func (c *cursor) text() string { return c.cut(int(binary.BigEndian.Uint32([]byte(c.cut(4))))) }

func (c *cursor) digest() api.Digest { return api.Digest([]byte(c.cut(32))) }

// lax: the snapshot of bytes, whatever its digest, its numbers and texts, and what stands behind; it panics where there are too few.
func lax(b string) api.Snap {
	c := cursor{b[32:]}
	s := api.Snap{Height: c.num(), Tip: c.digest()}
	c = cursor{c.text()}
	s.State.Config.Epoch = c.num()
	for range c.num() {
		m := api.Member{Id: c.num(), Key: api.Key{Height: c.num()}}
		m.Key.Root = c.digest()
		s.State.Config.Members = append(s.State.Config.Members, m)
	}
	for range c.num() {
		s.State.Pairs = append(s.State.Pairs, api.Pair{Key: c.text(), Val: c.text()})
	}
	for range c.num() {
		a := api.Reply{Client: c.num(), Num: c.num(), Code: api.Errno(c.num())}
		for range c.num() {
			a.Vals = append(a.Vals, c.text())
		}
		s.State.Replies = append(s.State.Replies, a)
	}
	return s
}

func modelRead(b string) (s api.Snap, e api.Errno) {
	defer func() {
		if recover() != nil {
			s, e = api.Snap{}, 4
		}
	}()
	s = lax(b)
	if !canBe(s) || modelBytes(s) != b {
		return api.Snap{}, 4
	}
	return s, 0
}

// canBe: whether a snapshot's height can be, its state stands in order, within all limits, and isn't too long.
func canBe(s api.Snap) bool {
	c, pairs, replies := s.State.Config, s.State.Pairs, s.State.Replies
	good := s.Height >= 0 && s.Height < 1025 && len(stateBytes(s.State)) <= 4194304
	good = good && c.Epoch >= 0 && c.Epoch <= 1<<30 && len(c.Members) > 0 && len(c.Members) < 11 && len(pairs) < 257 && len(replies) < 65
	for i, m := range c.Members {
		good = good && m.Id > 0 && m.Id < 64 && m.Key.Height >= 0 && m.Key.Height < 7
		good = good && (i == 0 || c.Members[i-1].Id < m.Id)
	}
	for i, p := range pairs {
		good = good && len(p.Key) < 1025 && len(p.Val) < 1025 && (i == 0 || pairs[i-1].Key < p.Key)
	}
	for i, a := range replies {
		good = good && goodReply(a) && (i == 0 || replies[i-1].Client < a.Client)
	}
	return good
}

func goodReply(a api.Reply) bool {
	return a.Client > 0 && a.Client < 65 && a.Num > 0 && a.Num <= lastNum && a.Code >= 0 && a.Code < 1025 &&
		len(a.Vals) < 257 && !slices.ContainsFunc(a.Vals, func(s string) bool { return len(s) > 1024 })
}

func sameReply(a, b api.Reply) bool {
	return a.Client == b.Client && a.Num == b.Num && a.Code == b.Code && slices.Equal(a.Vals, b.Vals)
}

// same: whether two snapshots are the same in all; an empty list may be nil or empty.
func same(a, b api.Snap) bool {
	x, y := a.State, b.State
	return a.Height == b.Height && a.Tip == b.Tip && slices.Equal(x.Pairs, y.Pairs) && slices.EqualFunc(x.Replies, y.Replies, sameReply) &&
		x.Config.Epoch == y.Config.Epoch && slices.Equal(x.Config.Members, y.Config.Members)
}

// deep: a copy of all of a snapshot, list by list.
func deep(s api.Snap) api.Snap {
	c := api.Snap{Height: s.Height, Tip: s.Tip}
	c.State.Config.Epoch = s.State.Config.Epoch
	c.State.Config.Members = append(c.State.Config.Members, s.State.Config.Members...)
	c.State.Pairs = append(c.State.Pairs, s.State.Pairs...)
	for _, a := range s.State.Replies {
		a.Vals = append([]string(nil), a.Vals...)
		c.State.Replies = append(c.State.Replies, a)
	}
	return c
}

// told: a snapshot in few words.
func told(s api.Snap) string {
	b := fmt.Sprintf("height %d, tip %x.., epoch %d, %d members, %d pairs", s.Height, s.Tip[:4], s.State.Config.Epoch, len(s.State.Config.Members), len(s.State.Pairs))
	for _, p := range s.State.Pairs {
		b += fmt.Sprintf(" %.20q=%.20q", p.Key, p.Val)
	}
	for _, a := range s.State.Replies {
		b += fmt.Sprintf("; %d, %d, %d: %.20q", a.Client, a.Num, a.Code, a.Vals)
	}
	if len(b) > 300 {
		b = b[:300] + ".."
	}
	return b
}

// modelFile is a file's bytes: those that are safe, and those that wait.
type modelFile struct{ safe, waits string }

// modelDisk is files, and the act in which the power goes next (0: in none).
type modelDisk struct {
	files map[string]modelFile
	down  bool
	acts  int
	last  int
	keep  int
}

// act puts bytes behind a file's, or in their place.
func (m *modelDisk) act(name, b string, install bool) api.Errno {
	if m.down {
		return api.ErrDown
	}
	f := m.files[name]
	all := len(b)
	for other, g := range m.files {
		if other != name || !install {
			all += len(g.safe) + len(g.waits)
		}
	}
	if all > 1<<22 {
		return api.ErrFull
	}
	m.acts++
	burns := m.acts == m.last
	switch {
	case !install:
		m.files[name] = modelFile{f.safe, f.waits + b}
	case !burns:
		m.files[name] = modelFile{b, ""}
	}
	if burns {
		m.off(m.keep)
		return api.ErrDown
	}
	return api.OK
}

func (m *modelDisk) off(keep int) {
	if m.down {
		return
	}
	m.down, m.last = true, 0
	for name, f := range m.files {
		m.files[name] = modelFile{safe: f.safe + f.waits[:min(max(0, keep), len(f.waits))]}
	}
}

func (m *modelDisk) read(name string) (string, api.Errno) {
	f, is := m.files[name]
	switch {
	case m.down:
		return "", api.ErrDown
	case !is:
		return "", api.ErrNone
	}
	return f.safe + f.waits, api.OK
}

// long: a text of n bytes.
func long(n int) string { return strings.Repeat("x", n) }

func ones() api.Digest { return api.Digest(bytes.Repeat([]byte{255}, 32)) }

func rising() api.Digest {
	var d api.Digest
	for i := range d {
		d[i] = byte(i + 1)
	}
	return d
}

// of: a configuration of members of these Ids, in this order.
func of(epoch int, ids ...int) api.Config {
	c := api.Config{Epoch: epoch}
	for _, id := range ids {
		c.Members = append(c.Members, api.Member{Id: id})
	}
	return c
}

// at: a snapshot of a state, at a height, of any tip.
func at(height int, s api.State) api.Snap {
	return api.Snap{Height: height, Tip: rising(), State: s}
}

// one: the state of one member alone.
func one() api.State { return api.State{Config: of(0, 1)} }

// pairsOf: a state of one member, and of pairs, each key ahead of its value.
func pairsOf(list ...string) api.State {
	s := one()
	for pair := range slices.Chunk(list, 2) {
		s.Pairs = append(s.Pairs, api.Pair{Key: pair[0], Val: pair[1]})
	}
	return s
}

// repliesOf: a state of one member, and of replies to these clients.
func repliesOf(clients ...int) api.State {
	s := one()
	for _, client := range clients {
		s.Replies = append(s.Replies, api.Reply{Client: client, Num: 1})
	}
	return s
}

// upTo: the numbers from 1 to n.
func upTo(n int) []int {
	var list []int
	for i := range n {
		list = append(list, i+1)
	}
	return list
}

// keys: n keys, rising, and a value of each.
func keys(n int) []string {
	var list []string
	for i := range n {
		list = append(list, fmt.Sprintf("%03d", i), fmt.Sprint(i))
	}
	return list
}

// sized: a state in order of n bytes, from 3000 on: what replies can tell is more than a disk has room for.
func sized(n int) api.State {
	s := repliesOf(upTo(64)...)
	left := n - len(stateBytes(s))
	for i := range s.Replies {
		for left > 2*1028 && len(s.Replies[i].Vals) < 250 {
			s.Replies[i].Vals = append(s.Replies[i].Vals, long(1024))
			left -= 1028
		}
	}
	last := &s.Replies[63]
	last.Vals = append(last.Vals, long(left/2-4), long(left-left/2-4))
	return s
}

func odd() []int {
	return []int{-1, 0, 1, 2, 5, 63, 64, 65, 255, 256, 257, 1023, 1024, 1025, 1 << 20, 1 << 30, 1<<30 + 1, 1 << 40, 1<<40 + 1, math.MaxInt, math.MinInt, 1<<32 + 1, 1 << 32, -1024}
}

func someOdd(rnd *rand.Rand) int { return odd()[rnd.Intn(len(odd()))] }

func someDigest(rnd *rand.Rand) api.Digest {
	var d api.Digest
	rnd.Read(d[:])
	return d
}

// someText: a text of any bytes, short for the most part.
func someText(rnd *rand.Rand) string {
	n := rnd.Intn(8)
	if rnd.Intn(8) == 0 {
		n = rnd.Intn(api.MaxText + 1)
	}
	b := make([]byte, n)
	rnd.Read(b)
	return string(b)
}

// someTexts: below n of them.
func someTexts(rnd *rand.Rand, n int) []string {
	var list []string
	for range rnd.Intn(n) {
		list = append(list, someText(rnd))
	}
	return list
}

// someGood: a snapshot of a height that can be, and of a state in order, of a configuration that can be.
func someGood(rnd *rand.Rand) api.Snap {
	s := api.State{Config: api.Config{Epoch: rnd.Intn(1<<30 + 1)}}
	for _, id := range rnd.Perm(63)[:1+rnd.Intn(10)] {
		s.Config.Members = append(s.Config.Members, api.Member{Id: id + 1, Key: api.Key{Root: someDigest(rnd), Height: rnd.Intn(7)}})
	}
	slices.SortFunc(s.Config.Members, func(a, b api.Member) int { return a.Id - b.Id })
	all := someTexts(rnd, 12)
	slices.Sort(all)
	for _, key := range slices.Compact(all) {
		s.Pairs = append(s.Pairs, api.Pair{Key: key, Val: someText(rnd)})
	}
	clients := rnd.Perm(64)[:rnd.Intn(6)]
	slices.Sort(clients)
	for _, client := range clients {
		s.Replies = append(s.Replies, api.Reply{Client: client + 1, Num: 1 + rnd.Intn(lastNum), Code: api.Errno(rnd.Intn(1025)), Vals: someTexts(rnd, 4)})
	}
	return api.Snap{Height: rnd.Intn(1025), Tip: someDigest(rnd), State: s}
}

// someAny: a snapshot in which something may be as it can't.
func someAny(rnd *rand.Rand) api.Snap {
	s := someGood(rnd)
	for range rnd.Intn(3) {
		spoil(rnd, &s)
	}
	return s
}

// spoil changes something of a snapshot, by which it may be one that can't be.
func spoil(rnd *rand.Rand, whole *api.Snap) {
	s := &whole.State
	c, p, a := rnd.Intn(len(s.Config.Members)+1), rnd.Intn(len(s.Pairs)+1), rnd.Intn(len(s.Replies)+1)
	kind := rnd.Intn(15)
	switch {
	case kind == 0:
		s.Config.Epoch = someOdd(rnd)
	case kind == 1:
		s.Config.Members = nil
	case kind == 2 && c > 0:
		s.Config.Members[c-1].Id = someOdd(rnd)
	case kind == 3 && c > 0:
		s.Config.Members[c-1].Key.Height = someOdd(rnd)
	case kind == 4 && p > 0:
		s.Pairs = append(s.Pairs, s.Pairs[p-1])
	case kind == 5 && p > 0:
		s.Pairs[p-1].Key = long(1023 + rnd.Intn(3))
	case kind == 6 && p > 0:
		s.Pairs[p-1].Val = long(1023 + rnd.Intn(3))
	case kind == 7:
		slices.Reverse(s.Pairs)
	case kind == 8:
		slices.Reverse(s.Replies)
	case kind == 9 && a > 0:
		s.Replies[a-1].Client = someOdd(rnd)
	case kind == 10 && a > 0:
		s.Replies[a-1].Num = someOdd(rnd)
	case kind == 11 && a > 0:
		s.Replies[a-1].Code = api.Errno(someOdd(rnd))
	case kind == 12 && a > 0:
		s.Replies = append(s.Replies, s.Replies[a-1])
	default:
		whole.Height = someOdd(rnd)
	}
}
