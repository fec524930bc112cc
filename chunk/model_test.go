package chunk_test

import (
	"bytes"
	"crypto/sha256"
	"encoding/binary"
	"fmt"
	"math"
	"math/bits"
	"math/rand"
	"slices"
	"strings"

	"wapentake/api"
)

// The model tells the document's pieces another way, with Go's own crypto/sha256: it builds trees from above, and takes bytes for a state's if what it reads, with no limit, can be and makes the same bytes again.

const lastNum = 1 << 40

func hash(texts ...string) api.Digest { return sha256.Sum256([]byte(strings.Join(texts, ""))) }

func text(d api.Digest) string { return string(d[:]) }

func num(list ...int) string {
	var b []byte
	for _, n := range list {
		b = binary.BigEndian.AppendUint64(b, uint64(n))
	}
	return string(b)
}

func texts(list ...string) string {
	var b []byte
	for _, s := range list {
		b = append(binary.BigEndian.AppendUint32(b, uint32(len(s))), s...)
	}
	return string(b)
}

func configBytes(c api.Config) string {
	b := num(c.Epoch, len(c.Members))
	for _, m := range c.Members {
		b += num(m.Id, m.Key.Height) + text(m.Key.Root)
	}
	return b
}

func replyBytes(a api.Reply) string {
	return num(a.Client, a.Num, int(a.Code), len(a.Vals)) + texts(a.Vals...)
}

func modelBytes(s api.State) string {
	var b strings.Builder
	b.WriteString(configBytes(s.Config) + num(len(s.Pairs)))
	for _, p := range s.Pairs {
		b.WriteString(texts(p.Key, p.Val))
	}
	b.WriteString(num(len(s.Replies)))
	for _, a := range s.Replies {
		b.WriteString(replyBytes(a))
	}
	return b.String()
}

// modelParts: bytes in parts of 256.
func modelParts(b string) []string {
	var list []string
	for len(b) > 256 {
		list = append(list, b[:256])
		b = b[256:]
	}
	return append(list, b)
}

// split: how many leaves of n the tree's left half has: the greatest power of two below n.
func split(n int) int { return 1 << (bits.Len(uint(n-1)) - 1) }

func modelRoot(parts ...string) api.Digest {
	if len(parts) == 1 {
		return hash("\x00", parts[0])
	}
	k := split(len(parts))
	return hash("\x01", text(modelRoot(parts[:k]...)), text(modelRoot(parts[k:]...)))
}

func modelPath(at int, parts ...string) []api.Digest {
	if len(parts) == 1 {
		return nil
	}
	k := split(len(parts))
	if at < k {
		return append(modelPath(at, parts[:k]...), modelRoot(parts[k:]...))
	}
	return append(modelPath(at-k, parts[k:]...), modelRoot(parts[:k]...))
}

// climb: the root that a leaf's digest makes with a path, from above; false: the path has another length.
func climb(leaf api.Digest, at, count int, path []api.Digest) (api.Digest, bool) {
	if count == 1 {
		return leaf, len(path) == 0
	}
	if len(path) == 0 {
		return api.Digest{}, false
	}
	k, below, last := split(count), path[:len(path)-1], text(path[len(path)-1])
	if at < k {
		left, ok := climb(leaf, at, k, below)
		return hash("\x01", text(left), last), ok
	}
	right, ok := climb(leaf, at-k, count-k, below)
	return hash("\x01", last, text(right)), ok
}

func modelDigest(count int, root api.Digest) api.Digest {
	return hash("state", num(count), text(root))
}

// piecesOf: all pieces of some parts, whatever these are, and their digest.
func piecesOf(parts ...string) (api.Digest, []api.Piece) {
	root := modelRoot(parts...)
	var list []api.Piece
	for i, part := range parts {
		list = append(list, api.Piece{At: i, Count: len(parts), Tree: root, Data: part, Path: modelPath(i, parts...)})
	}
	return modelDigest(len(parts), root), list
}

func modelCheck(root api.Digest, p api.Piece) bool {
	if p.At < 0 || p.At >= p.Count {
		return false
	}
	top, ok := climb(hash("\x00", p.Data), p.At, p.Count, p.Path)
	return ok && top == p.Tree && modelDigest(p.Count, p.Tree) == root
}

// modelJoin goes over all of the list for each place.
func modelJoin(root api.Digest, list ...api.Piece) (api.State, api.Errno) {
	list = slices.DeleteFunc(slices.Clone(list), func(p api.Piece) bool { return !modelCheck(root, p) })
	slices.Reverse(list)
	if len(list) == 0 {
		return api.State{}, 10
	}
	var b strings.Builder
	for at := range list[0].Count {
		i := slices.IndexFunc(list, func(p api.Piece) bool { return p.At == at })
		if i < 0 {
			return api.State{}, 10
		}
		b.WriteString(list[i].Data)
	}
	return modelState(b.String())
}

// cursor goes over bytes, and panics where there are too few.
type cursor struct{ rest string }

func (c *cursor) cut(n int) string {
	own := c.rest[:n]
	c.rest = c.rest[n:]
	return own
}

func (c *cursor) num() int { return int(binary.BigEndian.Uint64([]byte(c.cut(8)))) }

func (c *cursor) text() string { return c.cut(int(binary.BigEndian.Uint32([]byte(c.cut(4))))) }

// lax: the state of bytes, whatever its numbers and texts, and what stands behind; it panics where there are too few.
func lax(b string) api.State {
	c := cursor{b}
	s := api.State{Config: api.Config{Epoch: c.num()}}
	for range c.num() {
		m := api.Member{Id: c.num(), Key: api.Key{Height: c.num()}}
		m.Key.Root = api.Digest([]byte(c.cut(32)))
		s.Config.Members = append(s.Config.Members, m)
	}
	for range c.num() {
		s.Pairs = append(s.Pairs, api.Pair{Key: c.text(), Val: c.text()})
	}
	for range c.num() {
		a := api.Reply{Client: c.num(), Num: c.num(), Code: api.Errno(c.num())}
		for range c.num() {
			a.Vals = append(a.Vals, c.text())
		}
		s.Replies = append(s.Replies, a)
	}
	return s
}

func modelState(b string) (s api.State, e api.Errno) {
	defer func() {
		if recover() != nil {
			s, e = api.State{}, 4
		}
	}()
	s = lax(b)
	if !canBe(s) || modelBytes(s) != b {
		return api.State{}, 4
	}
	return s, 0
}

// canBe: whether a state stands in order, within all limits.
func canBe(s api.State) bool {
	c := s.Config
	good := c.Epoch >= 0 && c.Epoch <= 1<<30 && len(c.Members) > 0 && len(c.Members) < 11 && len(s.Pairs) < 257 && len(s.Replies) < 65
	for i, m := range c.Members {
		good = good && m.Id > 0 && m.Id < 64 && m.Key.Height >= 0 && m.Key.Height < 7
		good = good && (i == 0 || c.Members[i-1].Id < m.Id)
	}
	for i, p := range s.Pairs {
		good = good && len(p.Key) < 1025 && len(p.Val) < 1025 && (i == 0 || s.Pairs[i-1].Key < p.Key)
	}
	for i, a := range s.Replies {
		good = good && goodReply(a) && (i == 0 || s.Replies[i-1].Client < a.Client)
	}
	return good
}

func goodReply(a api.Reply) bool {
	return a.Client > 0 && a.Client < 65 && a.Num > 0 && a.Num <= lastNum && a.Code >= 0 && a.Code < 1025 &&
		len(a.Vals) < 257 && !slices.ContainsFunc(a.Vals, func(s string) bool { return len(s) > 1024 })
}

func sameReply(a, b api.Reply) bool {
	return a.Client == b.Client && a.Num == b.Num && a.Code == b.Code && slices.Equal(a.Vals, b.Vals)
}

// same: whether two states are the same in all; an empty list may be nil or empty.
func same(a, b api.State) bool {
	return slices.Equal(a.Pairs, b.Pairs) && slices.EqualFunc(a.Replies, b.Replies, sameReply) &&
		a.Config.Epoch == b.Config.Epoch && slices.Equal(a.Config.Members, b.Config.Members)
}

func samePiece(a, b api.Piece) bool {
	return a.At == b.At && a.Count == b.Count && a.Tree == b.Tree && a.Data == b.Data && slices.Equal(a.Path, b.Path)
}

// deep: a copy of all of a state, list by list.
func deep(s api.State) api.State {
	c := api.State{Config: api.Config{Epoch: s.Config.Epoch}}
	c.Pairs = append(c.Pairs, s.Pairs...)
	for _, a := range s.Replies {
		a.Vals = append([]string(nil), a.Vals...)
		c.Replies = append(c.Replies, a)
	}
	c.Config.Members = append(c.Config.Members, s.Config.Members...)
	return c
}

// deepPieces: a copy of pieces, path by path.
func deepPieces(list []api.Piece) []api.Piece {
	var all []api.Piece
	for _, p := range list {
		p.Path = append([]api.Digest(nil), p.Path...)
		all = append(all, p)
	}
	return all
}

// told: a state in few words.
func told(s api.State) string {
	b := fmt.Sprintf("epoch %d, %d members, pairs", s.Config.Epoch, len(s.Config.Members))
	for _, p := range s.Pairs {
		b += fmt.Sprintf(" %.20q=%.20q", p.Key, p.Val)
	}
	for _, a := range s.Replies {
		b += fmt.Sprintf("; %d, %d, %d: %.20q", a.Client, a.Num, a.Code, a.Vals)
	}
	if len(b) > 300 {
		b = b[:300] + ".."
	}
	return b
}

// long: a text of n bytes.
func long(n int) string { return strings.Repeat("x", n) }

func ones() api.Digest { return api.Digest(bytes.Repeat([]byte{255}, 32)) }

func rising() api.Digest {
	var d api.Digest
	for i := range d {
		d[i] = byte(i + 1)
	}
	return d
}

// of: a configuration of members of these Ids, in this order.
func of(epoch int, ids ...int) api.Config {
	c := api.Config{Epoch: epoch}
	for _, id := range ids {
		c.Members = append(c.Members, api.Member{Id: id})
	}
	return c
}

// one: the state of one member alone.
func one() api.State { return api.State{Config: of(0, 1)} }

// pairsOf: a state of one member, and of pairs, each key ahead of its value.
func pairsOf(list ...string) api.State {
	s := one()
	for pair := range slices.Chunk(list, 2) {
		s.Pairs = append(s.Pairs, api.Pair{Key: pair[0], Val: pair[1]})
	}
	return s
}

// repliesOf: a state of one member, and of replies to these clients.
func repliesOf(clients ...int) api.State {
	s := one()
	for _, client := range clients {
		s.Replies = append(s.Replies, api.Reply{Client: client, Num: 1})
	}
	return s
}

// sized: a state of n bytes, from 89 to 1113, no two of whose pieces are the same.
func sized(n int) api.State {
	val := make([]byte, n-89)
	for i := range val {
		val[i] = byte(i % 251)
	}
	return pairsOf("k", string(val))
}

// upTo: the numbers from 1 to n.
func upTo(n int) []int {
	var list []int
	for i := range n {
		list = append(list, i+1)
	}
	return list
}

// keys: n keys, rising, and a value of each.
func keys(n int) []string {
	var list []string
	for i := range n {
		list = append(list, fmt.Sprintf("%03d", i), fmt.Sprint(i))
	}
	return list
}

func odd() []int {
	return []int{-1, 0, 1, 2, 5, 63, 64, 65, 255, 256, 257, 1024, 1025, 1 << 20, 1 << 30, 1<<30 + 1, 1 << 40, 1<<40 + 1, math.MaxInt, math.MinInt, 1<<32 + 1}
}

func someOdd(rnd *rand.Rand) int { return odd()[rnd.Intn(len(odd()))] }

func someDigest(rnd *rand.Rand) api.Digest {
	var d api.Digest
	rnd.Read(d[:])
	return d
}

// someText: a text of any bytes, short for the most part.
func someText(rnd *rand.Rand) string {
	n := rnd.Intn(8)
	if rnd.Intn(8) == 0 {
		n = rnd.Intn(api.MaxText + 1)
	}
	b := make([]byte, n)
	rnd.Read(b)
	return string(b)
}

// someTexts: below n of them.
func someTexts(rnd *rand.Rand, n int) []string {
	var list []string
	for range rnd.Intn(n) {
		list = append(list, someText(rnd))
	}
	return list
}

// someGood: a state in order, of a configuration that can be.
func someGood(rnd *rand.Rand) api.State {
	s := api.State{Config: api.Config{Epoch: rnd.Intn(1<<30 + 1)}}
	for _, id := range rnd.Perm(63)[:1+rnd.Intn(10)] {
		s.Config.Members = append(s.Config.Members, api.Member{Id: id + 1, Key: api.Key{Root: someDigest(rnd), Height: rnd.Intn(7)}})
	}
	slices.SortFunc(s.Config.Members, func(a, b api.Member) int { return a.Id - b.Id })
	all := someTexts(rnd, 20)
	slices.Sort(all)
	for _, key := range slices.Compact(all) {
		s.Pairs = append(s.Pairs, api.Pair{Key: key, Val: someText(rnd)})
	}
	clients := rnd.Perm(64)[:rnd.Intn(8)]
	slices.Sort(clients)
	for _, client := range clients {
		s.Replies = append(s.Replies, api.Reply{Client: client + 1, Num: 1 + rnd.Intn(lastNum), Code: api.Errno(rnd.Intn(1025)), Vals: someTexts(rnd, 6)})
	}
	return s
}

// someAny: a state in which something may be as it can't.
func someAny(rnd *rand.Rand) api.State {
	s := someGood(rnd)
	for range rnd.Intn(3) {
		spoil(rnd, &s)
	}
	return s
}

// spoil changes something of a state, by which it may be one that can't be.
func spoil(rnd *rand.Rand, s *api.State) {
	c, p, a := rnd.Intn(len(s.Config.Members)+1), rnd.Intn(len(s.Pairs)+1), rnd.Intn(len(s.Replies)+1)
	kind := rnd.Intn(13)
	switch {
	case kind == 0:
		s.Config.Epoch = someOdd(rnd)
	case kind == 1:
		s.Config.Members = nil
	case kind == 2 && c > 0:
		s.Config.Members[c-1].Id = someOdd(rnd)
	case kind == 3 && c > 0:
		s.Config.Members[c-1].Key.Height = someOdd(rnd)
	case kind == 4 && p > 0:
		s.Pairs = append(s.Pairs, s.Pairs[p-1])
	case kind == 5 && p > 0:
		s.Pairs[p-1].Key = long(1023 + rnd.Intn(3))
	case kind == 6 && p > 0:
		s.Pairs[p-1].Val = long(1023 + rnd.Intn(3))
	case kind == 7:
		slices.Reverse(s.Pairs)
	case kind == 8:
		slices.Reverse(s.Replies)
	case kind == 9 && a > 0:
		s.Replies[a-1].Client = someOdd(rnd)
	case kind == 10 && a > 0:
		s.Replies[a-1].Num = someOdd(rnd)
	case kind == 11 && a > 0:
		s.Replies[a-1].Code = api.Errno(someOdd(rnd))
	case kind == 12 && a > 0:
		s.Replies = append(s.Replies, s.Replies[a-1])
	}
}

// shuffled: a list in another order.
func shuffled(rnd *rand.Rand, list []api.Piece) []api.Piece {
	list = slices.Clone(list)
	rnd.Shuffle(len(list), func(i, k int) { list[i], list[k] = list[k], list[i] })
	return list
}
