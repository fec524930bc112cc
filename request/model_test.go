package request_test

import (
	"bytes"
	"crypto/sha256"
	"encoding/binary"
	"math"
	"math/bits"
	"math/rand"
	"slices"
	"strings"

	"wapentake/api"
)

// The model tells the document's requests and replies another way: it cuts bytes into their fields as a whole and judges what came of it afterwards, and holds replies against each other by their bytes.

const lastNum = 1 << 40

func modelWhose(client, num int) bool {
	return uint(client-1) < 64 && num > 0 && bits.Len(uint(num-1)) <= 40
}

func modelGood(q api.Request) bool {
	switch q.Op.Kind {
	case 1, 2, 3, 4, 5, 6, 7:
		return modelWhose(q.Client, q.Num) && max(len(q.Op.Key), len(q.Op.Val), len(q.Op.Old)) < 1025
	}
	return false
}

// modelGoodReply: whether a reply is one that is read.
func modelGoodReply(a api.Reply) bool {
	long := 0
	for _, v := range a.Vals {
		long = max(long, len(v))
	}
	return modelWhose(a.Client, a.Num) && uint(a.Code) < 1025 && len(a.Vals) < 257 && long < 1025
}

func addNums(b []byte, list ...int) []byte {
	for _, n := range list {
		b = binary.BigEndian.AppendUint64(b, uint64(n))
	}
	return b
}

func addTexts(b []byte, list ...string) []byte {
	for _, s := range list {
		b = append(binary.BigEndian.AppendUint32(b, uint32(len(s))), s...)
	}
	return b
}

func modelBytes(q api.Request) []byte {
	b := addNums(nil, q.Client, q.Num, q.Op.Kind)
	b = addTexts(b, q.Op.Key, q.Op.Val, q.Op.Old)
	b = addNums(b, q.Op.Change.Kind, q.Op.Change.Id, q.Op.Change.New, q.Op.Change.Key.Height)
	return append(b, q.Op.Change.Key.Root[:]...)
}

func modelReplyBytes(a api.Reply) []byte {
	return addTexts(addNums(nil, a.Client, a.Num, int(a.Code), len(a.Vals)), a.Vals...)
}

func modelDigest(q api.Request) api.Digest {
	return sha256.Sum256(slices.Concat([]byte("request"), modelBytes(q)))
}

func modelSame(a, b api.Reply) bool {
	return bytes.Equal(modelReplyBytes(a), modelReplyBytes(b))
}

// cutNums: the numbers that bytes begin with, and what is behind them; false: there aren't so many.
func cutNums(b []byte, list ...*int) ([]byte, bool) {
	if len(b) < 8*len(list) {
		return nil, false
	}
	for i, n := range list {
		*n = int(binary.BigEndian.Uint64(b[8*i:]))
	}
	return b[8*len(list):], true
}

// cutText: the text that bytes begin with, however long, and what is behind it; false: there is none.
func cutText(b []byte) (string, []byte, bool) {
	if len(b) < 4 {
		return "", nil, false
	}
	size := uint64(binary.BigEndian.Uint32(b))
	if uint64(len(b)-4) < size {
		return "", nil, false
	}
	return string(b[4 : 4+size]), b[4+size:], true
}

// modelRead: the request at the beginning of some bytes, and how many it has; false: there is none.
func modelRead(all []byte) (api.Request, int, bool) {
	var q api.Request
	b, ok := cutNums(all, &q.Client, &q.Num, &q.Op.Kind)
	for _, s := range []*string{&q.Op.Key, &q.Op.Val, &q.Op.Old} {
		if ok {
			*s, b, ok = cutText(b)
		}
	}
	x := &q.Op.Change
	if ok {
		b, ok = cutNums(b, &x.Kind, &x.Id, &x.New, &x.Key.Height)
	}
	if !ok || len(b) < 32 {
		return api.Request{}, 0, false
	}
	x.Key.Root = api.Digest(b[:32])
	if !modelGood(q) {
		return api.Request{}, 0, false
	}
	return q, len(all) - len(b) + 32, true
}

// modelReadReply: the reply at the beginning of some bytes, and how many it has; false: there is none.
func modelReadReply(all []byte) (api.Reply, int, bool) {
	var client, num, e, count int
	b, ok := cutNums(all, &client, &num, &e, &count)
	a := api.Reply{Client: client, Num: num, Code: api.Errno(e)}
	if !ok || count < 0 || count > 256 {
		return api.Reply{}, 0, false
	}
	for range count {
		var v string
		if v, b, ok = cutText(b); !ok {
			return api.Reply{}, 0, false
		}
		a.Vals = append(a.Vals, v)
	}
	if !modelGoodReply(a) {
		return api.Reply{}, 0, false
	}
	return a, len(all) - len(b), true
}

// zero: whether it is the zero reply; an empty list may be nil or empty.
func zero(a api.Reply) bool {
	return a.Client == 0 && a.Num == 0 && a.Code == 0 && len(a.Vals) == 0
}

// odd: numbers at the limits of clients, kinds, codes, lists, texts and requests' numbers, beyond them, and what wraps round to them as an int of fewer bits.
func odd() []int {
	return []int{-1, 0, 1, 2, 6, 7, 8, 63, 64, 65, -64, 127, 255, 256, 257, 1023, 1024, 1025, math.MaxInt32, 1 << 31, 1 << 32, 1<<32 + 1, 1<<40 - 1, 1 << 40, 1<<40 + 1, 1 << 41, -1 << 40, math.MinInt32, -1 << 32, math.MaxInt - 1, math.MaxInt, math.MinInt, math.MinInt + 1}
}

func rising() api.Digest {
	var d api.Digest
	for i := range d {
		d[i] = byte(i)
	}
	return d
}

func ones() api.Digest { return api.Digest(bytes.Repeat([]byte{255}, 32)) }

// long: a text of n bytes.
func long(n int) string { return strings.Repeat("x", n) }

// full: a request of which each field is another thing than nothing, and than all others.
func full() api.Request {
	return api.Request{Client: 5, Num: 258, Op: api.Op{Kind: api.OpSwap, Key: "key", Val: "value", Old: "old one", Change: api.Change{Kind: 3, Id: 17, New: 18, Key: api.Key{Root: rising(), Height: 6}}}}
}

// fullReply: a reply likewise.
func fullReply() api.Reply {
	return api.Reply{Client: 6, Num: 259, Code: api.ErrOther, Vals: []string{"one", "", "three"}}
}

// someText: of any bytes, mostly short, at times of the most a text may have, or some more.
func someText(rnd *rand.Rand, most int) string {
	size := rnd.Intn(9)
	if rnd.Intn(10) == 0 {
		size = most - rnd.Intn(3)
	}
	b := make([]byte, size)
	rnd.Read(b)
	return string(b)
}

func someNum(rnd *rand.Rand) int {
	if rnd.Intn(4) == 0 {
		return []int{1, 2, lastNum - 1, lastNum}[rnd.Intn(4)]
	}
	return 1 + rnd.Intn(lastNum)
}

func someOdd(rnd *rand.Rand) int { return odd()[rnd.Intn(len(odd()))] }

// someGood: a request that can be; its change is any.
func someGood(rnd *rand.Rand) api.Request {
	q := api.Request{Client: 1 + rnd.Intn(64), Num: someNum(rnd), Op: api.Op{Kind: 1 + rnd.Intn(7), Key: someText(rnd, 1024), Val: someText(rnd, 1024), Old: someText(rnd, 1024)}}
	q.Op.Change = api.Change{Kind: rnd.Intn(5), Id: rnd.Intn(64), New: someOdd(rnd), Key: api.Key{Height: someOdd(rnd)}}
	rnd.Read(q.Op.Change.Key.Root[:])
	return q
}

// someBad: mostly a request of which one thing is off, though that may leave it one that can be.
func someBad(rnd *rand.Rand) api.Request {
	q, off := someGood(rnd), someOdd(rnd)
	switch rnd.Intn(9) {
	case 0:
		q.Client = off
	case 1:
		q.Num = off
	case 2:
		q.Op.Kind = off
	case 3:
		q.Op.Key = long(1020 + rnd.Intn(9))
	case 4:
		q.Op.Val = long(1020 + rnd.Intn(9))
	case 5:
		q.Op.Old = long(1020 + rnd.Intn(9))
	case 6:
		q.Op.Change.Kind = off
	case 7:
		q.Op.Change.Id = off
	}
	return q
}

// someGoodReply: a reply that is read, of n texts.
func someGoodReply(rnd *rand.Rand, n int) api.Reply {
	a := api.Reply{Client: 1 + rnd.Intn(64), Num: someNum(rnd), Code: api.Errno(rnd.Intn(1025))}
	for range n {
		a.Vals = append(a.Vals, someText(rnd, 1024))
	}
	return a
}

// someBadReply: mostly a reply of which one thing is off, though that may leave it one that is read.
func someBadReply(rnd *rand.Rand) api.Reply {
	a := someGoodReply(rnd, rnd.Intn(5))
	switch rnd.Intn(6) {
	case 0:
		a.Client = someOdd(rnd)
	case 1:
		a.Num = someOdd(rnd)
	case 2:
		a.Code = api.Errno(someOdd(rnd))
	case 3:
		a.Vals = make([]string, 250+rnd.Intn(12))
	case 4:
		a.Vals = append(a.Vals, long(1020+rnd.Intn(9)))
	}
	return a
}
