package config_test

import (
	"bytes"
	"crypto/sha256"
	"encoding/binary"
	"math"
	"math/rand"
	"slices"

	"wapentake/api"
)

// The model tells the document's configurations another way: it tries which numbers hold what is asked of f and of a quorum, reads bytes as a whole and judges them afterwards, and has members' keys by their Ids.

const lastEpoch = 1 << 30

func modelFits(m api.Member) bool {
	return !(m.Id < 1 || m.Id > 63 || m.Key.Height < 0 || m.Key.Height > 6)
}

func modelGood(c api.Config) bool {
	if c.Epoch < 0 || c.Epoch > lastEpoch || len(c.Members) == 0 || len(c.Members) > 10 {
		return false
	}
	times := map[int]int{}
	var ids []int
	for _, m := range c.Members {
		times[m.Id]++
		ids = append(ids, m.Id)
		if !modelFits(m) {
			return false
		}
	}
	return slices.IsSorted(ids) && len(times) == len(ids)
}

// modelFaults: the most members of whom there are three times as many, and one more.
func modelFaults(n int) int {
	f := 0
	for 3*(f+1)+1 <= n {
		f++
	}
	return f
}

// modelQuorum: the fewest of whom there are twice as many as members and f, and more.
func modelQuorum(n int) int {
	q := 0
	for 2*q <= n+modelFaults(n) {
		q++
	}
	return q
}

func modelFind(c api.Config, id int) (api.Member, int, bool) {
	found, at, is := api.Member{}, 0, false
	for i, m := range slices.Backward(c.Members) {
		if m.Id == id {
			found, at, is = m, i, true
		}
	}
	return found, at, is
}

func modelBytes(c api.Config) []byte {
	b := binary.BigEndian.AppendUint64(nil, uint64(c.Epoch))
	b = binary.BigEndian.AppendUint64(b, uint64(len(c.Members)))
	for _, m := range c.Members {
		b = binary.BigEndian.AppendUint64(b, uint64(m.Id))
		b = binary.BigEndian.AppendUint64(b, uint64(m.Key.Height))
		b = append(b, m.Key.Root[:]...)
	}
	return b
}

func modelDigest(c api.Config) api.Digest {
	return sha256.Sum256(slices.Concat([]byte("config"), modelBytes(c)))
}

func number(b []byte, at int) int { return int(binary.BigEndian.Uint64(b[at:])) }

// modelRead: the configuration at the beginning of some bytes, and how many it has; false: there is none.
func modelRead(b []byte) (api.Config, int, bool) {
	if len(b) < 16 || number(b, 8) < 1 || number(b, 8) > 10 || len(b) < 16+48*number(b, 8) {
		return api.Config{}, 0, false
	}
	c, size := api.Config{Epoch: number(b, 0)}, 16+48*number(b, 8)
	for at := 16; at < size; at += 48 {
		c.Members = append(c.Members, api.Member{Id: number(b, at), Key: api.Key{Height: number(b, at+8), Root: api.Digest(b[at+16 : at+48])}})
	}
	if !modelGood(c) {
		return api.Config{}, 0, false
	}
	return c, size, true
}

func modelApply(c api.Config, x api.Change) (api.Config, api.Errno) {
	if !modelGood(c) || c.Epoch == lastEpoch {
		return api.Config{}, api.ErrArg
	}
	keys := map[int]api.Key{}
	for _, m := range c.Members {
		keys[m.Id] = m.Key
	}
	e := modelChange(keys, x)
	if e != api.OK {
		return api.Config{}, e
	}
	behind := api.Config{Epoch: c.Epoch + 1}
	for id := 1; id <= 63; id++ {
		if k, is := keys[id]; is {
			behind.Members = append(behind.Members, api.Member{Id: id, Key: k})
		}
	}
	return behind, api.OK
}

// modelChange changes the keys by their Ids, or tells why that can't be.
func modelChange(keys map[int]api.Key, x api.Change) api.Errno {
	_, is := keys[x.Id]
	_, isNew := keys[x.New]
	idFits, newFits := modelFits(api.Member{Id: x.Id, Key: x.Key}), modelFits(api.Member{Id: x.New, Key: x.Key})
	switch x.Kind {
	case 1:
		if !idFits {
			return api.ErrArg
		}
		if is {
			return api.ErrOther
		}
		if len(keys) > 9 {
			return api.ErrMany
		}
		keys[x.Id] = x.Key
	case 2:
		if !is {
			return api.ErrNone
		}
		if len(keys) < 2 {
			return api.ErrFew
		}
		delete(keys, x.Id)
	case 3:
		if !newFits {
			return api.ErrArg
		}
		if !is {
			return api.ErrNone
		}
		if isNew {
			return api.ErrOther
		}
		delete(keys, x.Id)
		keys[x.New] = x.Key
	case 4:
		if !idFits {
			return api.ErrArg
		}
		if !is {
			return api.ErrNone
		}
		keys[x.Id] = x.Key
	default:
		return api.ErrArg
	}
	return api.OK
}

func same(a, b api.Config) bool {
	return a.Epoch == b.Epoch && slices.Equal(a.Members, b.Members)
}

func clone(c api.Config) api.Config {
	c.Members = slices.Clone(c.Members)
	return c
}

// zero: whether it is the zero configuration; an empty list may be nil or empty.
func zero(c api.Config) bool { return c.Epoch == 0 && len(c.Members) == 0 }

// keyOf: a key for each number, whose height can be.
func keyOf(n int) api.Key {
	return api.Key{Root: sha256.Sum256([]byte{byte(n), byte(n >> 8)}), Height: (n%7 + 7) % 7}
}

// of: a configuration of members of these Ids, in this order.
func of(epoch int, ids ...int) api.Config {
	c := api.Config{Epoch: epoch}
	for _, id := range ids {
		c.Members = append(c.Members, api.Member{Id: id, Key: keyOf(id)})
	}
	return c
}

// first: a configuration of n members, whose Ids are those from 1 on.
func first(n int) api.Config {
	var ids []int
	for id := 1; id <= n; id++ {
		ids = append(ids, id)
	}
	return of(0, ids...)
}

func ids(c api.Config) []int {
	var all []int
	for _, m := range c.Members {
		all = append(all, m.Id)
	}
	return all
}

func rising() api.Digest {
	var d api.Digest
	for i := range d {
		d[i] = byte(i)
	}
	return d
}

func ones() api.Digest { return api.Digest(bytes.Repeat([]byte{255}, 32)) }

func someKey(rnd *rand.Rand) api.Key {
	k := api.Key{Height: rnd.Intn(7)}
	rnd.Read(k.Root[:])
	return k
}

// someGood: a configuration that can be, of n members.
func someGood(rnd *rand.Rand, n int) api.Config {
	c := api.Config{Epoch: rnd.Intn(lastEpoch + 1)}
	if rnd.Intn(4) == 0 {
		c.Epoch = []int{0, 1, lastEpoch - 1, lastEpoch}[rnd.Intn(4)]
	}
	seats := rnd.Perm(63)[:n]
	slices.Sort(seats)
	for _, seat := range seats {
		c.Members = append(c.Members, api.Member{Id: 1 + seat, Key: someKey(rnd)})
	}
	return c
}

// someBad: mostly a configuration of which one thing is off, though that may leave it one that can be.
func someBad(rnd *rand.Rand) api.Config {
	c := someGood(rnd, 1+rnd.Intn(10))
	at, off := rnd.Intn(len(c.Members)), odd()[rnd.Intn(len(odd()))]
	switch rnd.Intn(8) {
	case 0:
		c.Epoch = off
	case 1:
		c.Members[at].Id = off
	case 2:
		c.Members[at].Key.Height = off
	case 3:
		c.Members[at].Id = c.Members[rnd.Intn(len(c.Members))].Id
	case 4:
		other := rnd.Intn(len(c.Members))
		c.Members[at], c.Members[other] = c.Members[other], c.Members[at]
	case 5:
		c.Members = nil
	case 6:
		c.Members = append(c.Members, someGood(rnd, 1+rnd.Intn(10)).Members...)
	case 7:
		c.Members = first(11 + rnd.Intn(60)).Members
	}
	return c
}

// someChange: of members and of others, most of which can be.
func someChange(rnd *rand.Rand, c api.Config) api.Change {
	some := func() int {
		switch n := rnd.Intn(20); {
		case n == 0:
			return odd()[rnd.Intn(len(odd()))]
		case n < 12 && len(c.Members) > 0:
			return c.Members[rnd.Intn(len(c.Members))].Id
		}
		return 1 + rnd.Intn(63)
	}
	x := api.Change{Kind: 1 + rnd.Intn(4), Id: some(), New: some(), Key: someKey(rnd)}
	switch rnd.Intn(20) {
	case 0:
		x.Kind = odd()[rnd.Intn(len(odd()))]
	case 1:
		x.Key.Height = odd()[rnd.Intn(len(odd()))]
	}
	return x
}

// odd: numbers at the limits of epochs, Ids, heights and kinds, beyond them, and what wraps round to them as an int of fewer bits.
func odd() []int {
	return []int{-1, 0, 1, 4, 5, 6, 7, 8, 10, 11, 63, 64, 65, -63, 127, 255, 256, 257, 1<<30 - 1, 1 << 30, 1<<30 + 1, math.MaxInt32, 1 << 31, 1 << 32, 1<<32 + 1, math.MinInt32, -1 << 32, math.MaxInt - 1, math.MaxInt, math.MinInt, math.MinInt + 1}
}
