package block_test

import (
	"bytes"
	"crypto/sha256"
	"encoding/binary"
	"fmt"
	"math"
	"math/rand"
	"slices"
	"strings"

	"wapentake/api"
)

// The model tells the document's blocks another way: it joins texts, and cuts them by a cursor that panics where they end, whatever numbers they tell; what came of it is judged afterwards.

const (
	lastEpoch  = 1 << 30
	lastHeight = 1 << 10
	lastNum    = 1 << 40
)

func hash(texts ...string) api.Digest { return sha256.Sum256([]byte(strings.Join(texts, ""))) }

func text(d api.Digest) string { return string(d[:]) }

func num(list ...int) string {
	var b []byte
	for _, n := range list {
		b = binary.BigEndian.AppendUint64(b, uint64(n))
	}
	return string(b)
}

func texts(list ...string) string {
	var b strings.Builder
	for _, s := range list {
		b.Write(binary.BigEndian.AppendUint32(nil, uint32(len(s))))
		b.WriteString(s)
	}
	return b.String()
}

func requestBytes(q api.Request) string {
	x := q.Op.Change
	return num(q.Client, q.Num, q.Op.Kind) + texts(q.Op.Key, q.Op.Val, q.Op.Old) + num(x.Kind, x.Id, x.New, x.Key.Height) + text(x.Key.Root)
}

// told: the bytes of a block that tells of count requests, whatever it has.
func told(b api.Block, count int) string {
	list := []string{num(b.Epoch, b.Height), text(b.Prev), text(b.State), text(b.Next), num(count)}
	for _, q := range b.Requests {
		list = append(list, requestBytes(q))
	}
	return strings.Join(list, "")
}

func modelBytes(b api.Block) string { return told(b, len(b.Requests)) }

func modelDigest(b api.Block) api.Digest { return hash("block", modelBytes(b)) }

func configBytes(c api.Config) string {
	list := []string{num(c.Epoch, len(c.Members))}
	for _, m := range c.Members {
		list = append(list, num(m.Id, m.Key.Height), text(m.Key.Root))
	}
	return strings.Join(list, "")
}

func modelFirst(c api.Config) api.Digest {
	return hash("first", text(hash("config", configBytes(c))))
}

// outside: whether a number is below the least, or above the most.
func outside(n, least, most int) bool { return n < least || n > most }

func modelGoodRequest(q api.Request) bool {
	if outside(q.Client, 1, 64) || outside(q.Num, 1, lastNum) || outside(q.Op.Kind, 1, 7) {
		return false
	}
	return max(len(q.Op.Key), len(q.Op.Val), len(q.Op.Old)) <= 1024
}

func modelGood(b api.Block) bool {
	if outside(b.Epoch, 0, lastEpoch) || outside(b.Height, 1, lastHeight) || len(b.Requests) > 8 {
		return false
	}
	fine := 0
	for _, q := range b.Requests {
		if modelGoodRequest(q) {
			fine++
		}
	}
	return fine == len(b.Requests)
}

// modelFollows holds what a block tells against what is wanted, by the bytes that both begin with.
func modelFollows(b api.Block, epoch, height int, prev, state api.Digest) bool {
	return modelGood(b) && strings.HasPrefix(modelBytes(b), num(epoch, height)+text(prev)+text(state))
}

// cursor goes over bytes, and panics where there are too few.
type cursor struct{ rest string }

func (c *cursor) cut(n int) string {
	own := c.rest[:n]
	c.rest = c.rest[n:]
	return own
}

func (c *cursor) num() int { return int(binary.BigEndian.Uint64([]byte(c.cut(8)))) }

func (c *cursor) text() string { return c.cut(int(binary.BigEndian.Uint32([]byte(c.cut(4))))) }

func (c *cursor) digest() api.Digest { return api.Digest([]byte(c.cut(32))) }

// modelRead: the block at the beginning of some bytes, and how many it has; false: there is none.
func modelRead(all string) (b api.Block, size int, is bool) {
	defer func() {
		if recover() != nil {
			b, size, is = api.Block{}, 0, false
		}
	}()
	c := cursor{all}
	b.Epoch, b.Height = c.num(), c.num()
	b.Prev, b.State, b.Next = c.digest(), c.digest(), c.digest()
	count := c.num()
	for range count {
		q := api.Request{Client: c.num(), Num: c.num()}
		q.Op = api.Op{Kind: c.num(), Key: c.text(), Val: c.text(), Old: c.text()}
		q.Op.Change = api.Change{Kind: c.num(), Id: c.num(), New: c.num(), Key: api.Key{Height: c.num(), Root: c.digest()}}
		b.Requests = append(b.Requests, q)
	}
	if count != len(b.Requests) || !modelGood(b) {
		return api.Block{}, 0, false
	}
	return b, len(all) - len(c.rest), true
}

// same: whether two blocks are the same; an empty list may be nil or empty.
func same(a, b api.Block) bool {
	numbers := a.Epoch == b.Epoch && a.Height == b.Height
	digests := a.Prev == b.Prev && a.State == b.State && a.Next == b.Next
	return numbers && digests && slices.Equal(a.Requests, b.Requests)
}

// clone: a block that shares no memory with another one.
func clone(b api.Block) api.Block {
	b.Requests = slices.Clone(b.Requests)
	return b
}

// short: a block in few words.
func short(b api.Block) string {
	s := fmt.Sprintf("epoch %d, height %d, %x %x %x, %d requests", b.Epoch, b.Height, b.Prev[:2], b.State[:2], b.Next[:2], len(b.Requests))
	for _, q := range b.Requests {
		s += fmt.Sprint(" ", []int{q.Client, q.Num, q.Op.Kind, len(q.Op.Key), len(q.Op.Val), len(q.Op.Old)})
	}
	return s
}

// odd: numbers at the limits of epochs, heights, clients, kinds, lists and requests' numbers, beyond them, and what wraps round to them as an int of fewer bits.
func odd() []int {
	return []int{-1, 0, 1, 2, 6, 7, 8, 9, 63, 64, 65, 127, 128, 255, 256, 257, 1023, 1024, 1025, -1024, 1<<30 - 1, 1 << 30, 1<<30 + 1, -1 << 30, math.MaxInt32, 1 << 31, 1 << 32, 1<<32 + 1, 1<<32 + 8, 1<<32 + 1024, 1<<40 - 1, 1 << 40, 1<<40 + 1, math.MinInt32, -1 << 32, math.MaxInt - 1, math.MaxInt, math.MinInt, math.MinInt + 1}
}

func rising(first byte) api.Digest {
	var d api.Digest
	for i := range d {
		d[i] = first + byte(i)
	}
	return d
}

func ones() api.Digest { return api.Digest(bytes.Repeat([]byte{255}, 32)) }

// long: a text of n bytes.
func long(n int) string { return strings.Repeat("x", n) }

// get: a request of a client, with a number and a key.
func get(client, n int, key string) api.Request {
	return api.Request{Client: client, Num: n, Op: api.Op{Kind: api.OpGet, Key: key}}
}

// full: a block of n requests of which each field is another thing than nothing, and than all others.
func full(n int) api.Block {
	b := api.Block{Epoch: 5, Height: 258, Prev: rising(1), State: rising(50), Next: rising(100)}
	for i := range n {
		q := api.Request{Client: 10 + i, Num: 300 + i, Op: api.Op{Kind: 1 + i%7, Key: fmt.Sprint("key ", i), Val: fmt.Sprint("value ", i), Old: fmt.Sprint("old one ", i)}}
		q.Op.Change = api.Change{Kind: 400 + i, Id: 500 + i, New: 600 + i, Key: api.Key{Root: rising(byte(150 + i)), Height: 700 + i}}
		b.Requests = append(b.Requests, q)
	}
	return b
}

// bads: requests of which one thing alone is off, by what that is.
func bads() map[string]api.Request {
	all := map[string]api.Request{"the zero request": {}}
	for name, off := range map[string]func(q *api.Request){
		"no client":         func(q *api.Request) { q.Client = 0 },
		"a client below 0":  func(q *api.Request) { q.Client = -1 },
		"the client 65":     func(q *api.Request) { q.Client = 65 },
		"no number":         func(q *api.Request) { q.Num = 0 },
		"a number below 0":  func(q *api.Request) { q.Num = -1 },
		"too high a number": func(q *api.Request) { q.Num = lastNum + 1 },
		"no kind":           func(q *api.Request) { q.Op.Kind = 0 },
		"the kind 8":        func(q *api.Request) { q.Op.Kind = 8 },
		"a long key":        func(q *api.Request) { q.Op.Key = long(1025) },
		"a long value":      func(q *api.Request) { q.Op.Val = long(1025) },
		"a long old one":    func(q *api.Request) { q.Op.Old = long(1025) },
	} {
		q := full(1).Requests[0]
		off(&q)
		all[name] = q
	}
	return all
}

func someDigest(rnd *rand.Rand) api.Digest {
	var d api.Digest
	rnd.Read(d[:])
	return d
}

// someText: of any bytes, mostly short, at times of the most a text may have.
func someText(rnd *rand.Rand) string {
	size := rnd.Intn(9)
	if rnd.Intn(20) == 0 {
		size = 1024 - rnd.Intn(3)
	}
	b := make([]byte, size)
	rnd.Read(b)
	return string(b)
}

func someOdd(rnd *rand.Rand) int { return odd()[rnd.Intn(len(odd()))] }

// someNum: from least to most, at times one of these.
func someNum(rnd *rand.Rand, least, most int) int {
	if rnd.Intn(4) == 0 {
		return []int{least, most}[rnd.Intn(2)]
	}
	return least + rnd.Intn(most-least+1)
}

func someRequest(rnd *rand.Rand) api.Request {
	q := api.Request{Client: someNum(rnd, 1, 64), Num: someNum(rnd, 1, lastNum)}
	q.Op = api.Op{Kind: someNum(rnd, 1, 7), Key: someText(rnd), Val: someText(rnd), Old: someText(rnd)}
	q.Op.Change = api.Change{Kind: rnd.Intn(5), Id: rnd.Intn(64), New: someOdd(rnd), Key: api.Key{Root: someDigest(rnd), Height: someOdd(rnd)}}
	return q
}

// someGood: a block that can be, of n requests.
func someGood(rnd *rand.Rand, n int) api.Block {
	b := api.Block{Epoch: someNum(rnd, 0, lastEpoch), Height: someNum(rnd, 1, lastHeight), Prev: someDigest(rnd), State: someDigest(rnd), Next: someDigest(rnd)}
	for range n {
		b.Requests = append(b.Requests, someRequest(rnd))
	}
	return b
}

// someBad: mostly a block of which one thing is off, though that may leave it one that can be.
func someBad(rnd *rand.Rand) api.Block {
	b := someGood(rnd, rnd.Intn(9))
	if len(b.Requests) == 0 {
		b.Requests = append(b.Requests, someRequest(rnd))
	}
	q := &b.Requests[rnd.Intn(len(b.Requests))]
	switch rnd.Intn(12) {
	case 0:
		b.Epoch = someOdd(rnd)
	case 1:
		b.Height = someOdd(rnd)
	case 2:
		q.Client = someOdd(rnd)
	case 3:
		q.Num = someOdd(rnd)
	case 4:
		q.Op.Kind = someOdd(rnd)
	case 5:
		q.Op.Key = long(1020 + rnd.Intn(9))
	case 6:
		q.Op.Val = long(1020 + rnd.Intn(9))
	case 7:
		q.Op.Old = long(1020 + rnd.Intn(9))
	case 8:
		b.Requests = append(b.Requests, someGood(rnd, rnd.Intn(9)).Requests...)
	case 9:
		b.Requests = nil
	}
	return b
}

// someConfig: of any numbers, be it one that can be or not.
func someConfig(rnd *rand.Rand) api.Config {
	c := api.Config{Epoch: someOdd(rnd)}
	for range rnd.Intn(13) {
		c.Members = append(c.Members, api.Member{Id: someOdd(rnd), Key: api.Key{Root: someDigest(rnd), Height: rnd.Intn(7)}})
	}
	return c
}
