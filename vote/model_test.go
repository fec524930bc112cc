package vote_test

import (
	"bytes"
	"crypto/sha256"
	"encoding/binary"
	"fmt"
	"math"
	"math/rand"
	"slices"
	"strings"

	"wapentake/api"
)

// The model tells the document's votes another way: it joins texts, and cuts them by a cursor that panics where they end; what came of it is judged afterwards. Whether a signature is right it tells by the key under which it would be. Its box is a list of votes, gone through for each question.

const (
	lastEpoch  = 1 << 30
	lastHeight = 1 << 10
	lastRound  = 1 << 10
)

func hash(texts ...string) api.Digest { return sha256.Sum256([]byte(strings.Join(texts, ""))) }

func text(list ...api.Digest) string {
	var all string
	for _, d := range list {
		all += string(d[:])
	}
	return all
}

func num(list ...int) string {
	var b []byte
	for _, n := range list {
		b = binary.BigEndian.AppendUint64(b, uint64(n))
	}
	return string(b)
}

func texts(list ...string) string {
	var all string
	for _, s := range list {
		all += string(binary.BigEndian.AppendUint32(nil, uint32(len(s)))) + s
	}
	return all
}

func blockBytes(b api.Block) string {
	list := []string{num(b.Epoch, b.Height), text(b.Prev, b.State, b.Next), num(len(b.Requests))}
	for _, q := range b.Requests {
		x := q.Op.Change
		list = append(list, num(q.Client, q.Num, q.Op.Kind), texts(q.Op.Key, q.Op.Val, q.Op.Old), num(x.Kind, x.Id, x.New, x.Key.Height), text(x.Key.Root))
	}
	return strings.Join(list, "")
}

func modelHead(v api.Vote) string {
	return num(v.Kind, v.Epoch, v.Height, v.Round, v.From) + text(v.Digest)
}

func modelPlanHead(p api.Plan) string {
	return num(p.Epoch, p.Height, p.Round, p.Valid, p.From) + blockBytes(p.Block)
}

func modelSigns(v api.Vote) api.Digest { return hash("vote", modelHead(v)) }

func modelSignsPlan(p api.Plan) api.Digest { return hash("plan", modelPlanHead(p)) }

func sigBytes(s api.Sig) string {
	return num(s.Leaf, len(s.Path)) + text(s.Once.Open...) + text(s.Once.Shut...) + text(s.Path...)
}

func modelBytes(v api.Vote) string { return modelHead(v) + sigBytes(v.Sig) }

func modelPlanBytes(p api.Plan) string { return modelPlanHead(p) + sigBytes(p.Sig) }

// modelFits: whether a signature's lists are as long as any can be.
func modelFits(s api.Sig) bool {
	return len(s.Once.Open) == 32 && len(s.Once.Shut) == 32 && len(s.Path) < 7
}

// outside: whether a number is below the least, or above the most.
func outside(n, least, most int) bool { return n < least || n > most }

func modelGood(v api.Vote) bool {
	if v.Kind != 1 && v.Kind != 2 {
		return false
	}
	return !outside(v.Epoch, 0, lastEpoch) && !outside(v.Height, 1, lastHeight) && !outside(v.Round, 0, lastRound) && !outside(v.From, 1, 63)
}

func modelGoodBlock(b api.Block) bool {
	if outside(b.Epoch, 0, lastEpoch) || outside(b.Height, 1, lastHeight) || len(b.Requests) > 8 {
		return false
	}
	for _, q := range b.Requests {
		if outside(q.Client, 1, 64) || outside(q.Num, 1, 1<<40) || outside(q.Op.Kind, 1, 7) || max(len(q.Op.Key), len(q.Op.Val), len(q.Op.Old)) > 1024 {
			return false
		}
	}
	return true
}

// modelGoodPlan: whether a plan is read as it was written, if its signature can be.
func modelGoodPlan(p api.Plan) bool {
	if outside(p.Epoch, 0, lastEpoch) || outside(p.Height, 1, lastHeight) || outside(p.From, 1, 63) {
		return false
	}
	return modelGoodRounds(p) && modelGoodBlock(p.Block)
}

func modelGoodRounds(p api.Plan) bool {
	return !outside(p.Round, 0, lastRound) && -1 <= p.Valid && p.Valid < p.Round
}

// modelKey: the key under which a signature is right.
func modelKey(d api.Digest, s api.Sig) api.Key {
	var rows [64]api.Digest
	for i, c := range fmt.Sprintf("%032b", binary.BigEndian.Uint32(d[:4])) {
		is := int(c - '0')
		rows[2*i+is], rows[2*i+1-is] = hash(text(s.Once.Open[i])), s.Once.Shut[i]
	}
	top := hash("\x00", text(hash(text(rows[:]...))))
	sides := fmt.Sprintf("%064b", s.Leaf)
	for i, other := range s.Path {
		if sides[63-i] == '0' {
			top = hash("\x01", text(top, other))
		} else {
			top = hash("\x01", text(other, top))
		}
	}
	return api.Key{Root: top, Height: len(s.Path)}
}

// modelSigned: whether the first member of that Id has the key that a signature wants.
func modelSigned(c api.Config, from int, d api.Digest, s api.Sig) bool {
	if !modelFits(s) || outside(s.Leaf, 0, 1<<len(s.Path)-1) {
		return false
	}
	for _, m := range c.Members {
		if m.Id == from {
			return m.Key == modelKey(d, s)
		}
	}
	return false
}

func modelRight(c api.Config, v api.Vote) bool {
	return modelGood(v) && v.Epoch == c.Epoch && modelSigned(c, v.From, modelSigns(v), v.Sig)
}

func modelRightPlan(c api.Config, p api.Plan) bool {
	if !modelGoodBlock(p.Block) || !modelGoodRounds(p) {
		return false
	}
	numbers := []int{p.Height, p.Epoch, p.Epoch}
	return slices.Equal(numbers, []int{p.Block.Height, p.Block.Epoch, c.Epoch}) && modelSigned(c, p.From, modelSignsPlan(p), p.Sig)
}

// cursor goes over bytes, and panics where there are too few.
type cursor struct{ rest string }

func (c *cursor) cut(n int) string {
	own := c.rest[:n]
	c.rest = c.rest[n:]
	return own
}

func (c *cursor) num() int { return int(binary.BigEndian.Uint64([]byte(c.cut(8)))) }

func (c *cursor) text() string { return c.cut(int(binary.BigEndian.Uint32([]byte(c.cut(4))))) }

func (c *cursor) digest() api.Digest { return api.Digest([]byte(c.cut(32))) }

func (c *cursor) digests(n int) []api.Digest {
	var list []api.Digest
	for range n {
		list = append(list, c.digest())
	}
	return list
}

func (c *cursor) sig() api.Sig {
	s := api.Sig{Leaf: c.num()}
	steps := c.num()
	s.Once.Open, s.Once.Shut = c.digests(32), c.digests(32)
	if s.Path = c.digests(steps); len(s.Path) != steps || steps > 6 {
		panic("no such path")
	}
	return s
}

func (c *cursor) block() api.Block {
	b := api.Block{Epoch: c.num(), Height: c.num(), Prev: c.digest(), State: c.digest(), Next: c.digest()}
	count := c.num()
	for range count {
		q := api.Request{Client: c.num(), Num: c.num()}
		q.Op = api.Op{Kind: c.num(), Key: c.text(), Val: c.text(), Old: c.text()}
		q.Op.Change = api.Change{Kind: c.num(), Id: c.num(), New: c.num(), Key: api.Key{Height: c.num(), Root: c.digest()}}
		b.Requests = append(b.Requests, q)
	}
	if len(b.Requests) != count {
		panic("no such count")
	}
	return b
}

// modelRead: the vote at the beginning of some bytes, and how many it has; false: there is none.
func modelRead(all string) (v api.Vote, size int, is bool) {
	defer func() {
		if recover() != nil {
			v, size, is = api.Vote{}, 0, false
		}
	}()
	c := cursor{all}
	v = api.Vote{Kind: c.num(), Epoch: c.num(), Height: c.num(), Round: c.num(), From: c.num(), Digest: c.digest(), Sig: c.sig()}
	if !modelGood(v) {
		return api.Vote{}, 0, false
	}
	return v, len(all) - len(c.rest), true
}

// modelReadPlan: the same of plans.
func modelReadPlan(all string) (p api.Plan, size int, is bool) {
	defer func() {
		if recover() != nil {
			p, size, is = api.Plan{}, 0, false
		}
	}()
	c := cursor{all}
	p = api.Plan{Epoch: c.num(), Height: c.num(), Round: c.num(), Valid: c.num(), From: c.num(), Block: c.block(), Sig: c.sig()}
	if !modelGoodPlan(p) {
		return api.Plan{}, 0, false
	}
	return p, len(all) - len(c.rest), true
}

// modelBox is all that was put in, in order.
type modelBox []api.Vote

func (b *modelBox) add(v api.Vote) bool {
	for _, u := range *b {
		if u.From == v.From && u.Kind == v.Kind && u.Round == v.Round {
			return false
		}
	}
	*b = append(*b, clone(v))
	return true
}

func (b modelBox) votes(kind, round int, d api.Digest) []api.Vote {
	var list []api.Vote
	for from := 1; from <= 63; from++ {
		for _, v := range b {
			if v.From == from && v.Kind == kind && v.Round == round && v.Digest == d {
				list = append(list, v)
			}
		}
	}
	return list
}

func (b modelBox) voters(round int) int {
	n := 0
	for from := 1; from <= 63; from++ {
		if slices.ContainsFunc(b, func(v api.Vote) bool { return v.From == from && v.Round >= round }) {
			n++
		}
	}
	return n
}

func (b modelBox) reached(n int) int {
	if n < 1 {
		return -1
	}
	for _, round := range b.rounds() {
		if b.voters(round) >= n {
			return round
		}
	}
	return -1
}

// rounds: those of all votes, from the last one on down.
func (b modelBox) rounds() []int {
	var list []int
	for _, v := range b {
		list = append(list, -v.Round)
	}
	slices.Sort(list)
	list = slices.Compact(list)
	for i := range list {
		list[i] = -list[i]
	}
	return list
}

// winner tries the digests that there are, from the last round on down.
func (b modelBox) winner(kind, quorum int) (api.Digest, int, bool) {
	var names []string
	for _, v := range b {
		if name := text(v.Digest); v.Kind == kind && name != text(api.Digest{}) && !slices.Contains(names, name) {
			names = append(names, name)
		}
	}
	slices.Sort(names)
	for _, round := range b.rounds() {
		for _, name := range names {
			d := api.Digest([]byte(name))
			if len(b.votes(kind, round, d)) >= quorum {
				return d, round, true
			}
		}
	}
	return api.Digest{}, 0, false
}

func sameSig(a, b api.Sig) bool {
	lists := slices.Equal(a.Once.Open, b.Once.Open) && slices.Equal(a.Once.Shut, b.Once.Shut)
	return a.Leaf == b.Leaf && lists && slices.Equal(a.Path, b.Path)
}

// same: whether two votes are the same; an empty list may be nil or empty.
func same(a, b api.Vote) bool { return modelHead(a) == modelHead(b) && sameSig(a.Sig, b.Sig) }

func samePlan(a, b api.Plan) bool {
	return modelPlanHead(a) == modelPlanHead(b) && sameSig(a.Sig, b.Sig)
}

func sameVotes(a, b []api.Vote) bool { return slices.EqualFunc(a, b, same) }

func cloneSig(s api.Sig) api.Sig {
	s.Once = api.Once{Open: slices.Clone(s.Once.Open), Shut: slices.Clone(s.Once.Shut)}
	s.Path = slices.Clone(s.Path)
	return s
}

// clone: a vote that shares no memory with another one.
func clone(v api.Vote) api.Vote {
	v.Sig = cloneSig(v.Sig)
	return v
}

func clonePlan(p api.Plan) api.Plan {
	p.Block.Requests = slices.Clone(p.Block.Requests)
	p.Sig = cloneSig(p.Sig)
	return p
}

func shortSig(s api.Sig) string {
	return fmt.Sprintf("sig %d %d %d %d", s.Leaf, len(s.Once.Open), len(s.Once.Shut), len(s.Path))
}

// short: a vote in few words.
func short(v api.Vote) string {
	return fmt.Sprintf("kind %d, epoch %d, height %d, round %d, from %d, %x, %s", v.Kind, v.Epoch, v.Height, v.Round, v.From, v.Digest[:2], shortSig(v.Sig))
}

func shortPlan(p api.Plan) string {
	return fmt.Sprintf("epoch %d, height %d, round %d, valid %d, from %d, a block of %d %d %d, %s", p.Epoch, p.Height, p.Round, p.Valid, p.From, p.Block.Epoch, p.Block.Height, len(p.Block.Requests), shortSig(p.Sig))
}

// odd: numbers at all limits, beyond them, and what wraps round to them as an int of fewer bits.
func odd() []int {
	return []int{-2, -1, 0, 1, 2, 3, 4, 5, 6, 7, 62, 63, 64, 65, 127, 128, 255, 256, 257, 258, 1022, 1023, 1024, 1025, -1024, 1<<30 - 1, 1 << 30, 1<<30 + 1, -1 << 30, math.MaxInt32, 1 << 31, 1 << 32, 1<<32 + 1, 1<<32 + 2, 1<<32 + 63, 1<<32 + 1024, 1<<32 - 1, math.MinInt32, -1 << 32, 1<<62 + 1, math.MaxInt - 1, math.MaxInt, math.MinInt, math.MinInt + 1}
}

func rising(first byte) api.Digest {
	var d api.Digest
	for i := range d {
		d[i] = first + byte(i)
	}
	return d
}

func ones() api.Digest { return api.Digest(bytes.Repeat([]byte{255}, 32)) }

// long: a text of n bytes.
func long(n int) string { return strings.Repeat("x", n) }

// row: n digests, no two of them alike.
func row(first byte, n int) []api.Digest {
	list := make([]api.Digest, n)
	for i := range list {
		list[i] = rising(first + byte(i))
	}
	return list
}

// sig: lists of a signature's form, which no seed made.
func sig(leaf, steps int) api.Sig {
	return api.Sig{Leaf: leaf, Once: api.Once{Open: row(1, 32), Shut: row(101, 32)}, Path: row(201, steps)}
}

// full: a vote of which each field is another thing than nothing, and than all others.
func full() api.Vote {
	return api.Vote{Kind: 2, Epoch: 5, Height: 258, Round: 7, Digest: rising(50), From: 9, Sig: sig(3, 2)}
}

// batch: a block of n requests of which each field is another thing than nothing, and than all others.
func batch(epoch, height, n int) api.Block {
	b := api.Block{Epoch: epoch, Height: height, Prev: rising(1), State: rising(50), Next: rising(100)}
	for i := range n {
		q := api.Request{Client: 10 + i, Num: 300 + i, Op: api.Op{Kind: 1 + i%7, Key: fmt.Sprint("key ", i), Val: fmt.Sprint("value ", i), Old: fmt.Sprint("old one ", i)}}
		q.Op.Change = api.Change{Kind: 400 + i, Id: 500 + i, New: 600 + i, Key: api.Key{Root: rising(byte(150 + i)), Height: 700 + i}}
		b.Requests = append(b.Requests, q)
	}
	return b
}

// fullPlan: a plan of n requests, likewise.
func fullPlan(n int) api.Plan {
	return api.Plan{Epoch: 5, Height: 258, Round: 7, Valid: 4, Block: batch(5, 258, n), From: 9, Sig: sig(3, 2)}
}

// under: a configuration in which a digest's signature is a member's.
func under(epoch, from int, d api.Digest, s api.Sig) api.Config {
	others := func(id int) api.Member { return api.Member{Id: id, Key: api.Key{Root: rising(byte(id)), Height: 2}} }
	return api.Config{Epoch: epoch, Members: []api.Member{others(-3), others(70), {Id: from, Key: modelKey(d, s)}, others(71)}}
}

// voters: a configuration in which a vote is right, if it can be.
func voters(v api.Vote) api.Config { return under(v.Epoch, v.From, modelSigns(v), v.Sig) }

// leaders: one in which a plan is, likewise.
func leaders(p api.Plan) api.Config { return under(p.Epoch, p.From, modelSignsPlan(p), p.Sig) }

func someDigest(rnd *rand.Rand) api.Digest {
	var d api.Digest
	rnd.Read(d[:])
	return d
}

func someDigests(rnd *rand.Rand, n int) []api.Digest {
	list := make([]api.Digest, n)
	for i := range list {
		list[i] = someDigest(rnd)
	}
	return list
}

func someOdd(rnd *rand.Rand) int { return odd()[rnd.Intn(len(odd()))] }

// someNum: from least to most, at times one of these.
func someNum(rnd *rand.Rand, least, most int) int {
	if rnd.Intn(4) == 0 {
		return []int{least, most}[rnd.Intn(2)]
	}
	return least + rnd.Intn(most-least+1)
}

func someSig(rnd *rand.Rand) api.Sig {
	steps := rnd.Intn(7)
	return api.Sig{Leaf: rnd.Intn(1 << steps), Once: api.Once{Open: someDigests(rnd, 32), Shut: someDigests(rnd, 32)}, Path: someDigests(rnd, steps)}
}

// someOffSig: mostly one that layer 5 refuses, or that has another leaf than any tree.
func someOffSig(rnd *rand.Rand) api.Sig {
	s := someSig(rnd)
	switch rnd.Intn(5) {
	case 0:
		s.Once.Open = someDigests(rnd, rnd.Intn(40))
	case 1:
		s.Once.Shut = someDigests(rnd, rnd.Intn(40))
	case 2:
		s.Path = someDigests(rnd, rnd.Intn(12))
	case 3:
		s.Leaf = someOdd(rnd)
	case 4:
		s.Once.Open, s.Once.Shut = s.Once.Open[:31], append(s.Once.Shut, s.Once.Open[31])
	}
	return s
}

// someGood: a vote that can be.
func someGood(rnd *rand.Rand) api.Vote {
	return api.Vote{Kind: 1 + rnd.Intn(2), Epoch: someNum(rnd, 0, lastEpoch), Height: someNum(rnd, 1, lastHeight), Round: someNum(rnd, 0, lastRound), Digest: someDigest(rnd), From: someNum(rnd, 1, 63), Sig: someSig(rnd)}
}

// someBad: mostly a vote of which one thing is off, though that may leave it one that can be.
func someBad(rnd *rand.Rand) api.Vote {
	v := someGood(rnd)
	switch rnd.Intn(9) {
	case 0:
		v.Kind = someOdd(rnd)
	case 1:
		v.Epoch = someOdd(rnd)
	case 2:
		v.Height = someOdd(rnd)
	case 3:
		v.Round = someOdd(rnd)
	case 4:
		v.From = someOdd(rnd)
	case 5:
		v.Sig = someOffSig(rnd)
	}
	return v
}

func someRequest(rnd *rand.Rand) api.Request {
	q := api.Request{Client: someNum(rnd, 1, 64), Num: someNum(rnd, 1, 1<<40)}
	q.Op = api.Op{Kind: someNum(rnd, 1, 7), Key: long(rnd.Intn(9)), Val: long(rnd.Intn(9)), Old: long(rnd.Intn(9))}
	q.Op.Change = api.Change{Kind: rnd.Intn(5), Id: rnd.Intn(64), New: someOdd(rnd), Key: api.Key{Root: someDigest(rnd), Height: someOdd(rnd)}}
	return q
}

// someGoodPlan: a plan whose block can be, and is of its height and epoch.
func someGoodPlan(rnd *rand.Rand) api.Plan {
	p := api.Plan{Epoch: someNum(rnd, 0, lastEpoch), Height: someNum(rnd, 1, lastHeight), Round: someNum(rnd, 0, lastRound), From: someNum(rnd, 1, 63), Sig: someSig(rnd)}
	p.Valid = someNum(rnd, -1, p.Round-1)
	p.Block = api.Block{Epoch: p.Epoch, Height: p.Height, Prev: someDigest(rnd), State: someDigest(rnd), Next: someDigest(rnd)}
	for range rnd.Intn(9) {
		p.Block.Requests = append(p.Block.Requests, someRequest(rnd))
	}
	return p
}

// someBadPlan: mostly a plan of which one thing is off, though that may leave it one that is right.
func someBadPlan(rnd *rand.Rand) api.Plan {
	p := someGoodPlan(rnd)
	switch rnd.Intn(14) {
	case 0:
		p.Epoch = someOdd(rnd)
	case 1:
		p.Height = someOdd(rnd)
	case 2:
		p.Round = someOdd(rnd)
	case 3:
		p.Valid = someOdd(rnd)
	case 4:
		p.Valid = p.Round - rnd.Intn(3)
	case 5:
		p.From = someOdd(rnd)
	case 6:
		p.Block.Epoch = someOdd(rnd)
	case 7:
		p.Block.Height = someOdd(rnd)
	case 8:
		p.Block.Requests = append(p.Block.Requests, api.Request{})
	case 9:
		p.Sig = someOffSig(rnd)
	case 10:
		p.Epoch, p.Height = someOdd(rnd), someOdd(rnd)
		p.Block.Epoch, p.Block.Height = p.Epoch, p.Height
	}
	return p
}
