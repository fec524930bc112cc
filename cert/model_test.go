package cert_test

import (
	"bytes"
	"crypto/sha256"
	"encoding/binary"
	"fmt"
	"math"
	"math/rand"
	"slices"
	"strings"

	"wapentake/api"
)

// The model tells the document's words another way: it joins texts, and cuts them by a cursor that panics where they end; what came of it is judged afterwards. Whether a signature is right it tells by the key under which it would be; what a vote must say it writes down as a text, and compares that.

const (
	lastEpoch  = 1 << 30
	lastHeight = 1 << 10
	lastRound  = 1 << 10
)

func hash(texts ...string) api.Digest { return sha256.Sum256([]byte(strings.Join(texts, ""))) }

func text(list ...api.Digest) string {
	var all string
	for _, d := range list {
		all += string(d[:])
	}
	return all
}

func num(list ...int) string {
	var b []byte
	for _, n := range list {
		b = binary.BigEndian.AppendUint64(b, uint64(n))
	}
	return string(b)
}

func texts(list ...string) string {
	var all string
	for _, s := range list {
		all += string(binary.BigEndian.AppendUint32(nil, uint32(len(s)))) + s
	}
	return all
}

func blockBytes(b api.Block) string {
	list := []string{num(b.Epoch, b.Height), text(b.Prev, b.State, b.Next), num(len(b.Requests))}
	for _, q := range b.Requests {
		x := q.Op.Change
		list = append(list, num(q.Client, q.Num, q.Op.Kind), texts(q.Op.Key, q.Op.Val, q.Op.Old), num(x.Kind, x.Id, x.New, x.Key.Height), text(x.Key.Root))
	}
	return strings.Join(list, "")
}

func blockDigest(b api.Block) api.Digest { return hash("block", blockBytes(b)) }

func voteHead(v api.Vote) string {
	return num(v.Kind, v.Epoch, v.Height, v.Round, v.From) + text(v.Digest)
}

func voteSigns(v api.Vote) api.Digest { return hash("vote", voteHead(v)) }

func sigBytes(s api.Sig) string {
	return num(s.Leaf, len(s.Path)) + text(s.Once.Open...) + text(s.Once.Shut...) + text(s.Path...)
}

func voteBytes(v api.Vote) string { return voteHead(v) + sigBytes(v.Sig) }

func modelBytes(x api.Cert) string {
	list := []string{num(x.Round, len(x.Votes))}
	for _, v := range x.Votes {
		list = append(list, voteBytes(v))
	}
	return strings.Join(list, "")
}

// modelFits: whether a signature's lists are as long as any can be.
func modelFits(s api.Sig) bool {
	return len(s.Once.Open) == 32 && len(s.Once.Shut) == 32 && len(s.Path) < 7
}

// modelWrites: whether all votes have such signatures.
func modelWrites(x api.Cert) bool {
	n := 0
	for _, v := range x.Votes {
		if modelFits(v.Sig) {
			n++
		}
	}
	return n == len(x.Votes)
}

// outside: whether a number is below the least, or above the most.
func outside(n, least, most int) bool { return n < least || n > most }

func goodVote(v api.Vote) bool {
	if v.Kind != 1 && v.Kind != 2 {
		return false
	}
	return !outside(v.Epoch, 0, lastEpoch) && !outside(v.Height, 1, lastHeight) && !outside(v.Round, 0, lastRound) && !outside(v.From, 1, 63)
}

func goodBlock(b api.Block) bool {
	if outside(b.Epoch, 0, lastEpoch) || outside(b.Height, 1, lastHeight) || len(b.Requests) > 8 {
		return false
	}
	for _, q := range b.Requests {
		if outside(q.Client, 1, 64) || outside(q.Num, 1, 1<<40) || outside(q.Op.Kind, 1, 7) || max(len(q.Op.Key), len(q.Op.Val), len(q.Op.Old)) > 1024 {
			return false
		}
	}
	return true
}

func goodConfig(c api.Config) bool {
	if outside(c.Epoch, 0, lastEpoch) || outside(len(c.Members), 1, 10) {
		return false
	}
	var ids []int
	for _, m := range c.Members {
		if outside(m.Id, 1, 63) || outside(m.Key.Height, 0, 6) {
			return false
		}
		ids = append(ids, m.Id)
	}
	return once(ids)
}

// once: whether numbers rise, none of them being there twice.
func once(list []int) bool {
	own := slices.Sorted(slices.Values(list))
	return slices.Equal(slices.Compact(own), list)
}

// modelQuorum: the fewest of which two sets have more members in common than may be wrong.
func modelQuorum(n int) int {
	wrong := 0
	for 3*(wrong+1) < n {
		wrong++
	}
	quorum := 0
	for 2*quorum-n <= wrong {
		quorum++
	}
	return quorum
}

// modelKey: the key under which a signature is right.
func modelKey(d api.Digest, s api.Sig) api.Key {
	var rows [64]api.Digest
	for i, c := range fmt.Sprintf("%032b", binary.BigEndian.Uint32(d[:4])) {
		is := int(c - '0')
		rows[2*i+is], rows[2*i+1-is] = hash(text(s.Once.Open[i])), s.Once.Shut[i]
	}
	top := hash("\x00", text(hash(text(rows[:]...))))
	sides := fmt.Sprintf("%064b", s.Leaf)
	for i, other := range s.Path {
		if sides[63-i] == '0' {
			top = hash("\x01", text(top, other))
		} else {
			top = hash("\x01", text(other, top))
		}
	}
	return api.Key{Root: top, Height: len(s.Path)}
}

// signed: whether the member of a vote's From has the key that its signature wants.
func signed(c api.Config, v api.Vote) bool {
	if !modelFits(v.Sig) || outside(v.Sig.Leaf, 0, 1<<len(v.Sig.Path)-1) {
		return false
	}
	return slices.Contains(c.Members, api.Member{Id: v.From, Key: modelKey(voteSigns(v), v.Sig)})
}

func modelCheck(c api.Config, b api.Block, x api.Cert) bool {
	if !goodConfig(c) || !goodBlock(b) || len(x.Votes) < modelQuorum(len(c.Members)) {
		return false
	}
	var froms []int
	for _, v := range x.Votes {
		wanted := num(2, c.Epoch, b.Height, x.Round, v.From) + text(blockDigest(b))
		if voteHead(v) != wanted || !goodVote(v) || !signed(c, v) {
			return false
		}
		froms = append(froms, v.From)
	}
	return once(froms) && c.Epoch == b.Epoch
}

// cursor goes over bytes, and panics where there are too few.
type cursor struct{ rest string }

func (c *cursor) cut(n int) string {
	own := c.rest[:n]
	c.rest = c.rest[n:]
	return own
}

func (c *cursor) num() int { return int(binary.BigEndian.Uint64([]byte(c.cut(8)))) }

func (c *cursor) digest() api.Digest { return api.Digest([]byte(c.cut(32))) }

func (c *cursor) digests(n int) []api.Digest {
	var list []api.Digest
	for range n {
		list = append(list, c.digest())
	}
	return list
}

func (c *cursor) sig() api.Sig {
	s := api.Sig{Leaf: c.num()}
	steps := c.num()
	s.Once.Open, s.Once.Shut = c.digests(32), c.digests(32)
	if s.Path = c.digests(steps); len(s.Path) != steps || steps > 6 {
		panic("no such path")
	}
	return s
}

func (c *cursor) vote() api.Vote {
	return api.Vote{Kind: c.num(), Epoch: c.num(), Height: c.num(), Round: c.num(), From: c.num(), Digest: c.digest(), Sig: c.sig()}
}

// modelRead: the word at the beginning of some bytes, and how many it has; false: there is none.
func modelRead(all string) (x api.Cert, size int, is bool) {
	defer func() {
		if recover() != nil {
			x, size, is = api.Cert{}, 0, false
		}
	}()
	c := cursor{all}
	x = api.Cert{Round: c.num()}
	count := c.num()
	for range count {
		x.Votes = append(x.Votes, c.vote())
	}
	if len(x.Votes) != count || !modelReads(x) {
		return api.Cert{}, 0, false
	}
	return x, len(all) - len(c.rest), true
}

// modelReads: whether a word is read as it was written, if it can be written.
func modelReads(x api.Cert) bool {
	if outside(x.Round, 0, lastRound) || outside(len(x.Votes), 1, 10) {
		return false
	}
	n := 0
	for _, v := range x.Votes {
		if goodVote(v) {
			n++
		}
	}
	return n == len(x.Votes)
}

// same: whether two votes are the same; an empty list may be nil or empty.
func same(a, b api.Vote) bool {
	lists := slices.Equal(a.Sig.Once.Open, b.Sig.Once.Open) && slices.Equal(a.Sig.Once.Shut, b.Sig.Once.Shut)
	return voteHead(a) == voteHead(b) && a.Sig.Leaf == b.Sig.Leaf && lists && slices.Equal(a.Sig.Path, b.Sig.Path)
}

func sameWord(x, y api.Cert) bool {
	return x.Round == y.Round && slices.EqualFunc(x.Votes, y.Votes, same)
}

// cloneVote: a vote that shares no memory with another one.
func cloneVote(v api.Vote) api.Vote {
	v.Sig.Once = api.Once{Open: slices.Clone(v.Sig.Once.Open), Shut: slices.Clone(v.Sig.Once.Shut)}
	v.Sig.Path = slices.Clone(v.Sig.Path)
	return v
}

func cloneVotes(votes []api.Vote) []api.Vote {
	var list []api.Vote
	for _, v := range votes {
		list = append(list, cloneVote(v))
	}
	return list
}

func cloneWord(x api.Cert) api.Cert {
	return api.Cert{Round: x.Round, Votes: cloneVotes(x.Votes)}
}

// short: a word in few letters.
func short(x api.Cert) string {
	all := fmt.Sprintf("round %d, %d votes:", x.Round, len(x.Votes))
	for _, v := range x.Votes {
		s := v.Sig
		all += fmt.Sprintf(" [%d %d %d %d %d %x, %d %d %d %d]", v.Kind, v.Epoch, v.Height, v.Round, v.From, v.Digest[:2], s.Leaf, len(s.Once.Open), len(s.Once.Shut), len(s.Path))
	}
	return all
}

// odd: numbers at all limits, beyond them, and what wraps round to them as an int of fewer bits.
func odd() []int {
	return []int{-2, -1, 0, 1, 2, 3, 4, 5, 6, 7, 9, 10, 11, 12, 62, 63, 64, 65, 127, 128, 255, 256, 257, 258, 1022, 1023, 1024, 1025, -1024, 1<<30 - 1, 1 << 30, 1<<30 + 1, -1 << 30, math.MaxInt32, 1 << 31, 1 << 32, 1<<32 + 1, 1<<32 + 2, 1<<32 + 10, 1<<32 + 63, 1<<32 + 1024, 1<<32 - 1, math.MinInt32, -1 << 32, 1<<62 + 1, math.MaxInt - 1, math.MaxInt, math.MinInt, math.MinInt + 1}
}

func rising(first byte) api.Digest {
	var d api.Digest
	for i := range d {
		d[i] = first + byte(i)
	}
	return d
}

func ones() api.Digest { return api.Digest(bytes.Repeat([]byte{255}, 32)) }

// row: n digests, no two of them alike.
func row(first byte, n int) []api.Digest {
	list := make([]api.Digest, n)
	for i := range list {
		list[i] = rising(first + byte(i))
	}
	return list
}

// sig: lists of a signature's form, which no seed made.
func sig(leaf, steps int) api.Sig {
	return api.Sig{Leaf: leaf, Once: api.Once{Open: row(byte(leaf), 32), Shut: row(byte(101+leaf), 32)}, Path: row(byte(201+leaf), steps)}
}

// batch: a block of n requests of which each field is another thing than nothing, and than all others.
func batch(epoch, height, n int) api.Block {
	b := api.Block{Epoch: epoch, Height: height, Prev: rising(1), State: rising(50), Next: rising(100)}
	for i := range n {
		q := api.Request{Client: 10 + i, Num: 300 + i, Op: api.Op{Kind: 1 + i%7, Key: fmt.Sprint("key ", i), Val: fmt.Sprint("value ", i), Old: fmt.Sprint("old one ", i)}}
		q.Op.Change = api.Change{Kind: 400 + i, Id: 500 + i, New: 600 + i, Key: api.Key{Root: rising(byte(150 + i)), Height: 700 + i}}
		b.Requests = append(b.Requests, q)
	}
	return b
}

// group: a configuration that can be, of members who all have the same key; fit gives them those by which votes are right.
func group(epoch, count int) api.Config {
	c := api.Config{Epoch: epoch}
	for i := range count {
		c.Members = append(c.Members, api.Member{Id: 2 + 3*i, Key: api.Key{Root: rising(byte(i)), Height: 1}})
	}
	return c
}

// fit: a configuration in which each member's first vote is right, as far as one can be.
func fit(c api.Config, votes []api.Vote) api.Config {
	c.Members = slices.Clone(c.Members)
	for i, m := range c.Members {
		at := slices.IndexFunc(votes, func(v api.Vote) bool { return v.From == m.Id })
		if at >= 0 && modelFits(votes[at].Sig) {
			c.Members[i].Key = modelKey(voteSigns(votes[at]), votes[at].Sig)
		}
	}
	return c
}

// says: a vote for a block, of a member, with a signature that fit makes right.
func says(b api.Block, round, from int) api.Vote {
	return api.Vote{Kind: 2, Epoch: b.Epoch, Height: b.Height, Round: round, From: from, Digest: blockDigest(b), Sig: sig(from%4, 2)}
}

// word: the votes of a configuration's first members for a block.
func word(c api.Config, b api.Block, round, count int) api.Cert {
	x := api.Cert{Round: round}
	for _, m := range c.Members[:count] {
		x.Votes = append(x.Votes, says(b, round, m.Id))
	}
	return x
}

// full: a word of four votes, in which each field is another thing than nothing.
func full() api.Cert { return word(group(5, 4), batch(5, 258, 3), 7, 4) }

func someDigest(rnd *rand.Rand) api.Digest {
	var d api.Digest
	rnd.Read(d[:])
	return d
}

func someDigests(rnd *rand.Rand, n int) []api.Digest {
	list := make([]api.Digest, n)
	for i := range list {
		list[i] = someDigest(rnd)
	}
	return list
}

func someOdd(rnd *rand.Rand) int { return odd()[rnd.Intn(len(odd()))] }

// someNum: from least to most, at times one of these.
func someNum(rnd *rand.Rand, least, most int) int {
	if rnd.Intn(4) == 0 {
		return []int{least, most}[rnd.Intn(2)]
	}
	return least + rnd.Intn(most-least+1)
}

func someSig(rnd *rand.Rand) api.Sig {
	steps := rnd.Intn(7)
	return api.Sig{Leaf: rnd.Intn(1 << steps), Once: api.Once{Open: someDigests(rnd, 32), Shut: someDigests(rnd, 32)}, Path: someDigests(rnd, steps)}
}

// someOffSig: mostly one that layer 5 refuses, or that has another leaf than any tree.
func someOffSig(rnd *rand.Rand) api.Sig {
	s := someSig(rnd)
	switch rnd.Intn(5) {
	case 0:
		s.Once.Open = someDigests(rnd, rnd.Intn(40))
	case 1:
		s.Once.Shut = someDigests(rnd, rnd.Intn(40))
	case 2:
		s.Path = someDigests(rnd, rnd.Intn(12))
	case 3:
		s.Leaf = someOdd(rnd)
	case 4:
		s.Once.Open, s.Once.Shut = s.Once.Open[:31], append(s.Once.Shut, s.Once.Open[31])
	}
	return s
}

// someVote: one that can be, of which nothing else is known.
func someVote(rnd *rand.Rand) api.Vote {
	return api.Vote{Kind: 1 + rnd.Intn(2), Epoch: someNum(rnd, 0, lastEpoch), Height: someNum(rnd, 1, lastHeight), Round: someNum(rnd, 0, lastRound), Digest: someDigest(rnd), From: someNum(rnd, 1, 63), Sig: someSig(rnd)}
}

// someVotes: so many of them.
func someVotes(rnd *rand.Rand, n int) []api.Vote {
	var votes []api.Vote
	for range n {
		votes = append(votes, someVote(rnd))
	}
	return votes
}

// someReadable: a word that is read as it was written, of votes that know nothing of one another.
func someReadable(rnd *rand.Rand) api.Cert {
	return api.Cert{Round: someNum(rnd, 0, lastRound), Votes: someVotes(rnd, someNum(rnd, 1, 10))}
}

// spoilVote turns one thing of a vote.
func spoilVote(rnd *rand.Rand, v *api.Vote) {
	switch rnd.Intn(8) {
	case 0:
		v.Kind = someOdd(rnd)
	case 1:
		v.Kind = 1
	case 2:
		v.Epoch = someOdd(rnd)
	case 3:
		v.Height = someOdd(rnd)
	case 4:
		v.Round = someOdd(rnd)
	case 5:
		v.From = someOdd(rnd)
	case 6:
		v.Sig = someOffSig(rnd)
	case 7:
		v.Digest[rnd.Intn(32)] ^= 1 << rnd.Intn(8)
	}
}

// someUnreadable: mostly a word of which one thing is off, though that may leave it one that is read.
func someUnreadable(rnd *rand.Rand) api.Cert {
	x := someReadable(rnd)
	switch rnd.Intn(5) {
	case 0:
		x.Round = someOdd(rnd)
	case 1:
		x.Votes = someVotes(rnd, rnd.Intn(15))
	case 2, 3:
		spoilVote(rnd, &x.Votes[rnd.Intn(len(x.Votes))])
	}
	return x
}

// matter is all that Check is asked of.
type matter struct {
	c api.Config
	b api.Block
	x api.Cert
}

// someMatter: a word that is right, of a quorum or more of any members; the second one's votes say other things at times, all of them alike.
func someMatter(rnd *rand.Rand) matter {
	c := api.Config{Epoch: someNum(rnd, 0, lastEpoch)}
	for _, id := range rnd.Perm(63)[:1+rnd.Intn(10)] {
		c.Members = append(c.Members, api.Member{Id: id + 1, Key: api.Key{Root: someDigest(rnd), Height: rnd.Intn(7)}})
	}
	slices.SortFunc(c.Members, func(a, b api.Member) int { return a.Id - b.Id })
	b := batch(c.Epoch, someNum(rnd, 1, lastHeight), rnd.Intn(9))
	b.Prev = someDigest(rnd)
	m := matter{c, b, api.Cert{Round: someNum(rnd, 0, lastRound)}}
	quorum := modelQuorum(len(c.Members))
	voters := rnd.Perm(len(c.Members))[:quorum+rnd.Intn(len(c.Members)-quorum+1)]
	slices.Sort(voters)
	for _, at := range voters {
		v := says(b, m.x.Round, c.Members[at].Id)
		v.Sig = someSig(rnd)
		m.x.Votes = append(m.x.Votes, v)
	}
	return m
}

// spoil turns one thing before the members have their keys, so that it isn't the signatures that tell; the word may be right all the same.
func (m *matter) spoil(rnd *rand.Rand) {
	votes := m.x.Votes
	n, at := len(votes), rnd.Intn(len(votes))
	switch rnd.Intn(16) {
	case 0:
		m.x.Votes = votes[:n-1]
	case 1:
		votes[at], votes[0] = votes[0], votes[at]
	case 2:
		m.x.Votes = slices.Insert(votes, at, votes[at])
	case 3:
		m.x.Votes = append(votes, votes[at])
	case 4, 5, 6:
		spoilVote(rnd, &votes[at])
	case 7:
		m.x.Round = someOdd(rnd)
	case 8:
		m.all(func(v *api.Vote) { v.Kind = 1 + rnd.Intn(3) })
	case 9:
		m.x.Round = someOdd(rnd)
		m.all(func(v *api.Vote) { v.Round = m.x.Round })
	case 10:
		m.b.Height = someOdd(rnd)
		m.all(func(v *api.Vote) { v.Height, v.Digest = m.b.Height, blockDigest(m.b) })
	case 11:
		m.b.Epoch = someOdd(rnd)
		m.all(func(v *api.Vote) { v.Digest = blockDigest(m.b) })
	case 12:
		m.b.Epoch, m.c.Epoch = someOdd(rnd), someOdd(rnd)
		m.all(func(v *api.Vote) { v.Epoch, v.Digest = m.c.Epoch, blockDigest(m.b) })
	case 13:
		m.b = batch(m.b.Epoch, m.b.Height, rnd.Intn(12))
		m.all(func(v *api.Vote) { v.Digest = blockDigest(m.b) })
	case 14:
		m.b.Prev[rnd.Intn(32)] ^= 1 << rnd.Intn(8)
	}
}

// all turns a thing of all votes.
func (m *matter) all(change func(v *api.Vote)) {
	for i := range m.x.Votes {
		change(&m.x.Votes[i])
	}
}

// twist turns one thing when the members have their keys.
func (m *matter) twist(rnd *rand.Rand) {
	members := m.c.Members
	at := rnd.Intn(len(members))
	switch rnd.Intn(12) {
	case 0:
		m.c.Epoch = someOdd(rnd)
	case 1:
		members[at].Id = someOdd(rnd)
	case 2:
		members[at].Key.Height = someOdd(rnd)
	case 3:
		members[at].Key.Root[rnd.Intn(32)] ^= 1 << rnd.Intn(8)
	case 4:
		members[at], members[0] = members[0], members[at]
	case 5:
		m.c.Members = append(members, api.Member{Id: members[len(members)-1].Id + 1})
	case 6:
		m.c.Members = slices.Delete(members, at, at+1)
	}
}
