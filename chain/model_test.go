package chain_test

import (
	"bytes"
	"crypto/sha256"
	"encoding/binary"
	"fmt"
	"math"
	"math/rand"
	"slices"
	"strings"

	"wapentake/api"
)

// The model tells the document's words another way: it joins texts, and cuts them by a cursor that panics where they end; what came of it is judged afterwards. Whether a signature is right it tells by the key under which it would be; so a chain is made from its last link to its first one: the votes of each give the members ahead of it their keys.

const (
	lastEpoch  = 1 << 30
	lastHeight = 1 << 10
	lastRound  = 1 << 10
)

func hash(texts ...string) api.Digest { return sha256.Sum256([]byte(strings.Join(texts, ""))) }

func text(list ...api.Digest) string {
	var all string
	for _, d := range list {
		all += string(d[:])
	}
	return all
}

func num(list ...int) string {
	var b []byte
	for _, n := range list {
		b = binary.BigEndian.AppendUint64(b, uint64(n))
	}
	return string(b)
}

func texts(list ...string) string {
	var all string
	for _, s := range list {
		all += string(binary.BigEndian.AppendUint32(nil, uint32(len(s)))) + s
	}
	return all
}

func blockBytes(b api.Block) string {
	list := []string{num(b.Epoch, b.Height), text(b.Prev, b.State, b.Next), num(len(b.Requests))}
	for _, q := range b.Requests {
		x := q.Op.Change
		list = append(list, num(q.Client, q.Num, q.Op.Kind), texts(q.Op.Key, q.Op.Val, q.Op.Old), num(x.Kind, x.Id, x.New, x.Key.Height), text(x.Key.Root))
	}
	return strings.Join(list, "")
}

func blockDigest(b api.Block) api.Digest { return hash("block", blockBytes(b)) }

func configBytes(c api.Config) string {
	list := []string{num(c.Epoch, len(c.Members))}
	for _, m := range c.Members {
		list = append(list, num(m.Id, m.Key.Height), text(m.Key.Root))
	}
	return strings.Join(list, "")
}

func configDigest(c api.Config) api.Digest { return hash("config", configBytes(c)) }

func voteHead(v api.Vote) string {
	return num(v.Kind, v.Epoch, v.Height, v.Round, v.From) + text(v.Digest)
}

func voteSigns(v api.Vote) api.Digest { return hash("vote", voteHead(v)) }

func sigBytes(s api.Sig) string {
	return num(s.Leaf, len(s.Path)) + text(s.Once.Open...) + text(s.Once.Shut...) + text(s.Path...)
}

func voteBytes(v api.Vote) string { return voteHead(v) + sigBytes(v.Sig) }

func wordBytes(x api.Cert) string {
	list := []string{num(x.Round, len(x.Votes))}
	for _, v := range x.Votes {
		list = append(list, voteBytes(v))
	}
	return strings.Join(list, "")
}

func modelBytes(l api.Link) string {
	return blockBytes(l.Block) + wordBytes(l.Cert) + configBytes(l.Config)
}

// modelFits: whether a signature's lists are as long as any can be.
func modelFits(s api.Sig) bool {
	return len(s.Once.Open) == 32 && len(s.Once.Shut) == 32 && len(s.Path) < 7
}

// modelWrites: whether all votes of a link have such signatures.
func modelWrites(l api.Link) bool {
	n := 0
	for _, v := range l.Cert.Votes {
		if modelFits(v.Sig) {
			n++
		}
	}
	return n == len(l.Cert.Votes)
}

// outside: whether a number is below the least, or above the most.
func outside(n, least, most int) bool { return n < least || n > most }

func goodVote(v api.Vote) bool {
	if v.Kind != 1 && v.Kind != 2 {
		return false
	}
	return !outside(v.Epoch, 0, lastEpoch) && !outside(v.Height, 1, lastHeight) && !outside(v.Round, 0, lastRound) && !outside(v.From, 1, 63)
}

func goodBlock(b api.Block) bool {
	if outside(b.Epoch, 0, lastEpoch) || outside(b.Height, 1, lastHeight) || len(b.Requests) > 8 {
		return false
	}
	for _, q := range b.Requests {
		if outside(q.Client, 1, 64) || outside(q.Num, 1, 1<<40) || outside(q.Op.Kind, 1, 7) || max(len(q.Op.Key), len(q.Op.Val), len(q.Op.Old)) > 1024 {
			return false
		}
	}
	return true
}

func goodConfig(c api.Config) bool {
	if outside(c.Epoch, 0, lastEpoch) || outside(len(c.Members), 1, 10) {
		return false
	}
	var ids []int
	for _, m := range c.Members {
		if outside(m.Id, 1, 63) || outside(m.Key.Height, 0, 6) {
			return false
		}
		ids = append(ids, m.Id)
	}
	return once(ids)
}

// once: whether numbers rise, none of them being there twice.
func once(list []int) bool {
	own := slices.Sorted(slices.Values(list))
	return slices.Equal(slices.Compact(own), list)
}

// modelQuorum: the fewest of which two sets have more members in common than may be wrong.
func modelQuorum(n int) int {
	wrong := 0
	for 3*(wrong+1) < n {
		wrong++
	}
	quorum := 0
	for 2*quorum-n <= wrong {
		quorum++
	}
	return quorum
}

// modelKey: the key under which a signature is right.
func modelKey(d api.Digest, s api.Sig) api.Key {
	var rows [64]api.Digest
	for i, c := range fmt.Sprintf("%032b", binary.BigEndian.Uint32(d[:4])) {
		is := int(c - '0')
		rows[2*i+is], rows[2*i+1-is] = hash(text(s.Once.Open[i])), s.Once.Shut[i]
	}
	top := hash("\x00", text(hash(text(rows[:]...))))
	sides := fmt.Sprintf("%064b", s.Leaf)
	for i, other := range s.Path {
		if sides[63-i] == '0' {
			top = hash("\x01", text(top, other))
		} else {
			top = hash("\x01", text(other, top))
		}
	}
	return api.Key{Root: top, Height: len(s.Path)}
}

// signed: whether the member of a vote's From has the key that its signature wants.
func signed(c api.Config, v api.Vote) bool {
	if !modelFits(v.Sig) || outside(v.Sig.Leaf, 0, 1<<len(v.Sig.Path)-1) {
		return false
	}
	return slices.Contains(c.Members, api.Member{Id: v.From, Key: modelKey(voteSigns(v), v.Sig)})
}

// modelWord: whether a word is right for a block in a configuration.
func modelWord(c api.Config, b api.Block, x api.Cert) bool {
	if !goodConfig(c) || !goodBlock(b) || len(x.Votes) < modelQuorum(len(c.Members)) {
		return false
	}
	var froms []int
	for _, v := range x.Votes {
		wanted := num(2, c.Epoch, b.Height, x.Round, v.From) + text(blockDigest(b))
		if voteHead(v) != wanted || !goodVote(v) || !signed(c, v) {
			return false
		}
		froms = append(froms, v.From)
	}
	return once(froms) && c.Epoch == b.Epoch
}

// modelStep: of all that may be wrong with a link the first thing.
func modelStep(c api.Config, height int, l api.Link) api.Errno {
	wrong := map[api.Errno]bool{
		api.ErrChain: !(l.Block.Height > height) || !goodConfig(l.Config) || !(l.Config.Epoch > c.Epoch),
		api.ErrFew:   !modelWord(c, l.Block, l.Cert),
		api.ErrRoot:  text(configDigest(l.Config)) != text(l.Block.Next),
	}
	for _, e := range []api.Errno{api.ErrChain, api.ErrFew, api.ErrRoot} {
		if wrong[e] {
			return e
		}
	}
	return api.OK
}

// modelCheck holds each link against what stands ahead of it, by lists of all configurations and heights.
func modelCheck(first api.Config, links []api.Link) (api.Config, int, api.Errno) {
	if !goodConfig(first) {
		return api.Config{}, 0, api.ErrArg
	}
	if len(links) > 1024 {
		return api.Config{}, 0, api.ErrMany
	}
	configs, heights := []api.Config{first}, []int{0}
	for _, l := range links {
		configs, heights = append(configs, l.Config), append(heights, l.Block.Height)
	}
	for i, l := range links {
		if e := modelStep(configs[i], heights[i], l); e != api.OK {
			return api.Config{}, i, e
		}
	}
	return configs[len(links)], len(links), api.OK
}

// cursor goes over bytes, and panics where there are too few.
type cursor struct{ rest string }

func (c *cursor) cut(n int) string {
	own := c.rest[:n]
	c.rest = c.rest[n:]
	return own
}

func (c *cursor) num() int { return int(binary.BigEndian.Uint64([]byte(c.cut(8)))) }

func (c *cursor) text() string { return c.cut(int(binary.BigEndian.Uint32([]byte(c.cut(4))))) }

func (c *cursor) digest() api.Digest { return api.Digest([]byte(c.cut(32))) }

func (c *cursor) digests(n int) []api.Digest {
	var list []api.Digest
	for range n {
		list = append(list, c.digest())
	}
	return list
}

func (c *cursor) sig() api.Sig {
	s := api.Sig{Leaf: c.num()}
	steps := c.num()
	s.Once.Open, s.Once.Shut = c.digests(32), c.digests(32)
	if s.Path = c.digests(steps); len(s.Path) != steps || steps > 6 {
		panic("no such path")
	}
	return s
}

func (c *cursor) vote() api.Vote {
	return api.Vote{Kind: c.num(), Epoch: c.num(), Height: c.num(), Round: c.num(), From: c.num(), Digest: c.digest(), Sig: c.sig()}
}

func (c *cursor) block() api.Block {
	b := api.Block{Epoch: c.num(), Height: c.num(), Prev: c.digest(), State: c.digest(), Next: c.digest()}
	for range c.count() {
		q := api.Request{Client: c.num(), Num: c.num()}
		q.Op = api.Op{Kind: c.num(), Key: c.text(), Val: c.text(), Old: c.text()}
		q.Op.Change = api.Change{Kind: c.num(), Id: c.num(), New: c.num(), Key: api.Key{Height: c.num(), Root: c.digest()}}
		b.Requests = append(b.Requests, q)
	}
	return b
}

func (c *cursor) word() api.Cert {
	x := api.Cert{Round: c.num()}
	for range c.count() {
		x.Votes = append(x.Votes, c.vote())
	}
	return x
}

func (c *cursor) config() api.Config {
	k := api.Config{Epoch: c.num()}
	for range c.count() {
		k.Members = append(k.Members, api.Member{Id: c.num(), Key: api.Key{Height: c.num(), Root: c.digest()}})
	}
	return k
}

// count: a number of things; below 0 there is no such thing.
func (c *cursor) count() int {
	n := c.num()
	if n < 0 {
		panic("no such number")
	}
	return n
}

// modelRead: the link at the beginning of some bytes, and how many it has; false: there is none.
func modelRead(all string) (l api.Link, size int, is bool) {
	defer func() {
		if recover() != nil {
			l, size, is = api.Link{}, 0, false
		}
	}()
	c := cursor{all}
	l.Block = c.block()
	l.Cert = c.word()
	l.Config = c.config()
	if !modelReads(l) {
		return api.Link{}, 0, false
	}
	return l, len(all) - len(c.rest), true
}

// readsWord: whether a word is read as it was written, if it can be written.
func readsWord(x api.Cert) bool {
	if outside(x.Round, 0, lastRound) || outside(len(x.Votes), 1, 10) {
		return false
	}
	n := 0
	for _, v := range x.Votes {
		if goodVote(v) {
			n++
		}
	}
	return n == len(x.Votes)
}

// modelReads: whether a link is read as it was written, if it can be written.
func modelReads(l api.Link) bool {
	return goodBlock(l.Block) && readsWord(l.Cert) && goodConfig(l.Config)
}

// same: whether two links are the same; an empty list may be nil or empty.
func same(a, b api.Link) bool {
	if blockBytes(a.Block) != blockBytes(b.Block) || a.Cert.Round != b.Cert.Round {
		return false
	}
	return slices.EqualFunc(a.Cert.Votes, b.Cert.Votes, sameVote) && sameConfig(a.Config, b.Config)
}

func sameConfig(a, b api.Config) bool {
	return a.Epoch == b.Epoch && slices.Equal(a.Members, b.Members)
}

func sameVote(a, b api.Vote) bool {
	lists := slices.Equal(a.Sig.Once.Open, b.Sig.Once.Open) && slices.Equal(a.Sig.Once.Shut, b.Sig.Once.Shut)
	return voteHead(a) == voteHead(b) && a.Sig.Leaf == b.Sig.Leaf && lists && slices.Equal(a.Sig.Path, b.Sig.Path)
}

// clone: a link that shares no memory with another one.
func clone(l api.Link) api.Link {
	l.Block.Requests = slices.Clone(l.Block.Requests)
	l.Config.Members = slices.Clone(l.Config.Members)
	l.Cert.Votes = slices.Clone(l.Cert.Votes)
	for i := range l.Cert.Votes {
		s := &l.Cert.Votes[i].Sig
		s.Once = api.Once{Open: slices.Clone(s.Once.Open), Shut: slices.Clone(s.Once.Shut)}
		s.Path = slices.Clone(s.Path)
	}
	return l
}

func cloneLinks(links []api.Link) []api.Link {
	var list []api.Link
	for _, l := range links {
		list = append(list, clone(l))
	}
	return list
}

// short: a link in few letters.
func short(l api.Link) string {
	b, x, c := l.Block, l.Cert, l.Config
	all := fmt.Sprintf("a block of %d %d %x %d, round %d, %d votes:", b.Epoch, b.Height, b.Next[:2], len(b.Requests), x.Round, len(x.Votes))
	for _, v := range x.Votes {
		s := v.Sig
		all += fmt.Sprintf(" [%d %d %d %d %d %x, %d %d %d %d]", v.Kind, v.Epoch, v.Height, v.Round, v.From, v.Digest[:2], s.Leaf, len(s.Once.Open), len(s.Once.Shut), len(s.Path))
	}
	return all + ", " + shortConfig(c)
}

func shortConfig(c api.Config) string {
	all := fmt.Sprintf("epoch %d, %d members:", c.Epoch, len(c.Members))
	for _, m := range c.Members {
		all += fmt.Sprintf(" %d", m.Id)
	}
	return all
}

// odd: numbers at all limits, beyond them, and what wraps round to them as an int of fewer bits.
func odd() []int {
	return []int{-2, -1, 0, 1, 2, 3, 4, 5, 6, 7, 9, 10, 11, 12, 62, 63, 64, 65, 127, 128, 255, 256, 257, 258, 1022, 1023, 1024, 1025, -1024, 1<<30 - 1, 1 << 30, 1<<30 + 1, -1 << 30, math.MaxInt32, 1 << 31, 1 << 32, 1<<32 + 1, 1<<32 + 2, 1<<32 + 10, 1<<32 + 63, 1<<32 + 1024, 1<<32 - 1, math.MinInt32, -1 << 32, 1<<62 + 1, math.MaxInt - 1, math.MaxInt, math.MinInt, math.MinInt + 1}
}

func rising(first byte) api.Digest {
	var d api.Digest
	for i := range d {
		d[i] = first + byte(i)
	}
	return d
}

func ones() api.Digest { return api.Digest(bytes.Repeat([]byte{255}, 32)) }

// row: n digests, no two of them alike.
func row(first byte, n int) []api.Digest {
	list := make([]api.Digest, n)
	for i := range list {
		list[i] = rising(first + byte(i))
	}
	return list
}

// sig: lists of a signature's form, which no seed made.
func sig(leaf, steps int) api.Sig {
	return api.Sig{Leaf: leaf, Once: api.Once{Open: row(byte(leaf), 32), Shut: row(byte(101+leaf), 32)}, Path: row(byte(201+leaf), steps)}
}

// batch: a block of n requests of which each field is another thing than nothing, and than all others.
func batch(epoch, height, n int) api.Block {
	b := api.Block{Epoch: epoch, Height: height, Prev: rising(1), State: rising(50), Next: rising(100)}
	for i := range n {
		q := api.Request{Client: 10 + i, Num: 300 + i, Op: api.Op{Kind: 1 + i%7, Key: fmt.Sprint("key ", i), Val: fmt.Sprint("value ", i), Old: fmt.Sprint("old one ", i)}}
		q.Op.Change = api.Change{Kind: 400 + i, Id: 500 + i, New: 600 + i, Key: api.Key{Root: rising(byte(150 + i)), Height: 700 + i}}
		b.Requests = append(b.Requests, q)
	}
	return b
}

// group: a configuration that can be, of members who have any key; fit gives them those by which votes are right.
func group(epoch, count int) api.Config {
	c := api.Config{Epoch: epoch}
	for i := range count {
		c.Members = append(c.Members, api.Member{Id: 2 + 3*i, Key: api.Key{Root: rising(byte(i)), Height: 1}})
	}
	return c
}

// fit: a configuration in which each member's first vote is right, as far as one can be.
func fit(c api.Config, votes []api.Vote) api.Config {
	c.Members = slices.Clone(c.Members)
	for i, m := range c.Members {
		at := slices.IndexFunc(votes, func(v api.Vote) bool { return v.From == m.Id })
		if at >= 0 && modelFits(votes[at].Sig) {
			c.Members[i].Key = modelKey(voteSigns(votes[at]), votes[at].Sig)
		}
	}
	return c
}

// says: a vote for a block, of a member, with a signature that fit makes right.
func says(b api.Block, round, from int) api.Vote {
	return api.Vote{Kind: 2, Epoch: b.Epoch, Height: b.Height, Round: round, From: from, Digest: blockDigest(b), Sig: sig(from%4, 2)}
}

// word: the votes of a configuration's first members for a block.
func word(c api.Config, b api.Block, round, count int) api.Cert {
	x := api.Cert{Round: round}
	for _, m := range c.Members[:count] {
		x.Votes = append(x.Votes, says(b, round, m.Id))
	}
	return x
}

// quorate: a quorum's word.
func quorate(c api.Config, b api.Block) api.Cert {
	return word(c, b, 7, min(modelQuorum(len(c.Members)), len(c.Members)))
}

// way: a first configuration, and links from it on.
type way struct {
	first api.Config
	links []api.Link
}

// ahead: the configuration ahead of a link.
func (w *way) ahead(at int) *api.Config {
	if at == 0 {
		return &w.first
	}
	return &w.links[at-1].Config
}

// hand is how a way is sealed.
type hand struct {
	said   func(at int, l *api.Link)                // turns what is voted for
	poll   func(c api.Config, b api.Block) api.Cert // quorate, if there is none
	polled func(at int, l *api.Link)                // turns what was voted
}

// seal gives each link its Next and its votes, and the members ahead of it the keys under which these are right; so each leads, but for what its numbers say, and what the hand turns.
func (w *way) seal(h hand) {
	for at := len(w.links) - 1; at >= 0; at-- {
		l, c := &w.links[at], w.ahead(at)
		l.Block.Next = configDigest(l.Config)
		if h.said != nil {
			h.said(at, l)
		}
		if h.poll == nil {
			h.poll = quorate
		}
		l.Cert = h.poll(*c, l.Block)
		if h.polled != nil {
			h.polled(at, l)
		}
		*c = fit(*c, l.Cert.Votes)
	}
}

// only: of one link alone.
func only(which int, turn func(l *api.Link)) func(at int, l *api.Link) {
	return func(at int, l *api.Link) {
		if at == which {
			turn(l)
		}
	}
}

// clone: a way that shares no memory with another one.
func (w *way) clone() way {
	return way{api.Config{Epoch: w.first.Epoch, Members: slices.Clone(w.first.Members)}, cloneLinks(w.links)}
}

// steps: a way of n links, not sealed yet, whose epochs and heights rise by more than one at times, and whose members come and go.
func steps(n int) way {
	w := way{first: group(5, 4)}
	epoch, height := 5, 0
	for i := range n {
		b := batch(epoch, height+1+i%3, i%9)
		epoch, height = epoch+1+i%2, b.Height
		w.links = append(w.links, api.Link{Block: b, Config: group(epoch, 1+(3+i)%10)})
	}
	return w
}

// line: a way of n links that leads.
func line(n int) way {
	w := steps(n)
	w.seal(hand{})
	return w
}

// full: a link of four votes in which each field is another thing than nothing, and that leads from first on.
func full() (first api.Config, l api.Link) {
	w := way{first: group(5, 4), links: []api.Link{{Block: batch(5, 258, 3), Config: group(6, 5)}}}
	w.seal(hand{poll: func(c api.Config, b api.Block) api.Cert { return word(c, b, 7, 4) }})
	return w.first, w.links[0]
}

func someDigest(rnd *rand.Rand) api.Digest {
	var d api.Digest
	rnd.Read(d[:])
	return d
}

func someDigests(rnd *rand.Rand, n int) []api.Digest {
	list := make([]api.Digest, n)
	for i := range list {
		list[i] = someDigest(rnd)
	}
	return list
}

func someOdd(rnd *rand.Rand) int { return odd()[rnd.Intn(len(odd()))] }

// someNum: from least to most, at times one of these.
func someNum(rnd *rand.Rand, least, most int) int {
	if rnd.Intn(4) == 0 {
		return []int{least, most}[rnd.Intn(2)]
	}
	return least + rnd.Intn(most-least+1)
}

func someSig(rnd *rand.Rand) api.Sig {
	steps := rnd.Intn(7)
	return api.Sig{Leaf: rnd.Intn(1 << steps), Once: api.Once{Open: someDigests(rnd, 32), Shut: someDigests(rnd, 32)}, Path: someDigests(rnd, steps)}
}

// someOffSig: mostly one that layer 5 refuses, or that has another leaf than any tree.
func someOffSig(rnd *rand.Rand) api.Sig {
	s := someSig(rnd)
	switch rnd.Intn(5) {
	case 0:
		s.Once.Open = someDigests(rnd, rnd.Intn(40))
	case 1:
		s.Once.Shut = someDigests(rnd, rnd.Intn(40))
	case 2:
		s.Path = someDigests(rnd, rnd.Intn(12))
	case 3:
		s.Leaf = someOdd(rnd)
	case 4:
		s.Once.Open, s.Once.Shut = s.Once.Open[:31], append(s.Once.Shut, s.Once.Open[31])
	}
	return s
}

// someVote: one that can be, of which nothing else is known.
func someVote(rnd *rand.Rand) api.Vote {
	return api.Vote{Kind: 1 + rnd.Intn(2), Epoch: someNum(rnd, 0, lastEpoch), Height: someNum(rnd, 1, lastHeight), Round: someNum(rnd, 0, lastRound), Digest: someDigest(rnd), From: someNum(rnd, 1, 63), Sig: someSig(rnd)}
}

// someVotes: so many of them.
func someVotes(rnd *rand.Rand, n int) []api.Vote {
	var votes []api.Vote
	for range n {
		votes = append(votes, someVote(rnd))
	}
	return votes
}

// spoilVote turns one thing of a vote.
func spoilVote(rnd *rand.Rand, v *api.Vote) {
	switch rnd.Intn(8) {
	case 0:
		v.Kind = someOdd(rnd)
	case 1:
		v.Kind = 1
	case 2:
		v.Epoch = someOdd(rnd)
	case 3:
		v.Height = someOdd(rnd)
	case 4:
		v.Round = someOdd(rnd)
	case 5:
		v.From = someOdd(rnd)
	case 6:
		v.Sig = someOffSig(rnd)
	case 7:
		v.Digest[rnd.Intn(32)] ^= 1 << rnd.Intn(8)
	}
}

// someConfig: one that can be, of an epoch.
func someConfig(rnd *rand.Rand, epoch int) api.Config {
	c := api.Config{Epoch: epoch}
	for _, id := range rnd.Perm(63)[:1+rnd.Intn(10)] {
		c.Members = append(c.Members, api.Member{Id: id + 1, Key: api.Key{Root: someDigest(rnd), Height: rnd.Intn(7)}})
	}
	slices.SortFunc(c.Members, func(a, b api.Member) int { return a.Id - b.Id })
	return c
}

// somePoll: the votes of a quorum or more of any members, in any round.
func somePoll(rnd *rand.Rand) func(c api.Config, b api.Block) api.Cert {
	return func(c api.Config, b api.Block) api.Cert {
		n := len(c.Members)
		quorum := min(modelQuorum(n), n)
		voters := rnd.Perm(n)[:quorum+rnd.Intn(n-quorum+1)]
		slices.Sort(voters)
		x := api.Cert{Round: someNum(rnd, 0, lastRound)}
		for _, at := range voters {
			v := says(b, x.Round, c.Members[at].Id)
			v.Sig = someSig(rnd)
			x.Votes = append(x.Votes, v)
		}
		return x
	}
}

// someSteps: a way of n links, not sealed yet, whose epochs and heights rise somehow.
func someSteps(rnd *rand.Rand, n int) way {
	epoch, height := someNum(rnd, 0, 1000), 0
	w := way{first: someConfig(rnd, epoch)}
	for range n {
		b := batch(epoch, height+1+rnd.Intn(3), rnd.Intn(9))
		b.Prev = someDigest(rnd)
		epoch, height = epoch+1+rnd.Intn(3)*rnd.Intn(1<<20), b.Height
		w.links = append(w.links, api.Link{Block: b, Config: someConfig(rnd, epoch)})
	}
	return w
}

// someWay: mostly one of which one thing is off, be it ahead of the votes, ahead of the keys, or behind all; that may leave it one that leads.
func someWay(rnd *rand.Rand) way {
	w := someSteps(rnd, rnd.Intn(6))
	n := len(w.links)
	if n == 0 {
		return w
	}
	h := hand{poll: somePoll(rnd)}
	switch rnd.Intn(6) {
	case 0, 1:
		h.said = only(rnd.Intn(n), func(l *api.Link) { spoilSaid(rnd, l) })
	case 2:
		h.polled = only(rnd.Intn(n), func(l *api.Link) { spoilPolled(rnd, l) })
	}
	w.seal(h)
	switch rnd.Intn(8) {
	case 0:
		spoilSealed(rnd, &w.links[rnd.Intn(n)])
	case 1:
		w.first.Epoch = someOdd(rnd)
	case 2:
		w.shuffle(rnd)
	}
	return w
}

// spoilSaid turns one thing of what is voted for.
func spoilSaid(rnd *rand.Rand, l *api.Link) {
	b, c := &l.Block, &l.Config
	switch rnd.Intn(9) {
	case 0:
		b.Height = someOdd(rnd)
	case 1:
		b.Height += rnd.Intn(9) - 4
	case 2:
		b.Epoch = someOdd(rnd)
	case 3:
		b.Next[rnd.Intn(32)] ^= 1 << rnd.Intn(8)
	case 4:
		b.Requests = batch(1, 1, rnd.Intn(12)).Requests
	case 5:
		c.Epoch = someOdd(rnd)
		b.Next = configDigest(*c)
	case 6:
		c.Members[rnd.Intn(len(c.Members))].Id = someOdd(rnd)
		b.Next = configDigest(*c)
	case 7:
		c.Members[rnd.Intn(len(c.Members))].Key.Height = someOdd(rnd)
		b.Next = configDigest(*c)
	case 8:
		c.Members = slices.Concat(c.Members, c.Members)[:rnd.Intn(2*len(c.Members))]
		b.Next = configDigest(*c)
	}
}

// spoilPolled turns one thing of the votes.
func spoilPolled(rnd *rand.Rand, l *api.Link) {
	votes := l.Cert.Votes
	n := len(votes)
	if n == 0 {
		return
	}
	at := rnd.Intn(n)
	switch rnd.Intn(6) {
	case 0:
		l.Cert.Votes = votes[:n-1]
	case 1:
		l.Cert.Votes = append(votes, votes[at])
	case 2:
		votes[at], votes[0] = votes[0], votes[at]
	case 3:
		l.Cert.Round = someOdd(rnd)
	case 4, 5:
		spoilVote(rnd, &votes[at])
	}
}

// spoilSealed turns one thing of what was signed.
func spoilSealed(rnd *rand.Rand, l *api.Link) {
	switch rnd.Intn(7) {
	case 0:
		l.Block.Height = someOdd(rnd)
	case 1:
		l.Block.Prev[rnd.Intn(32)] ^= 1 << rnd.Intn(8)
	case 2:
		l.Block.Next[rnd.Intn(32)] ^= 1 << rnd.Intn(8)
	case 3:
		l.Config.Epoch += rnd.Intn(3) - 1
	case 4:
		l.Config.Members = slices.Clone(l.Config.Members)[:rnd.Intn(len(l.Config.Members)+1)]
	case 5:
		for _, v := range l.Cert.Votes {
			for i := range v.Sig.Once.Shut {
				v.Sig.Once.Shut[i][5] ^= 1
			}
		}
	case 6:
		l.Cert.Round++
	}
}

// shuffle puts a link twice, leaves one out, or exchanges two; of few that may leave it as it was.
func (w *way) shuffle(rnd *rand.Rand) {
	n := len(w.links)
	at, other := rnd.Intn(n), rnd.Intn(n)
	switch rnd.Intn(3) {
	case 0:
		w.links = slices.Insert(w.links, at, w.links[other])
	case 1:
		w.links = slices.Delete(w.links, at, at+1)
	case 2:
		w.links[at], w.links[other] = w.links[other], w.links[at]
	}
}

// someReadable: a link that is read as it was written, of parts that know nothing of one another.
func someReadable(rnd *rand.Rand) api.Link {
	b := batch(someNum(rnd, 0, lastEpoch), someNum(rnd, 1, lastHeight), rnd.Intn(9))
	b.Next = someDigest(rnd)
	x := api.Cert{Round: someNum(rnd, 0, lastRound), Votes: someVotes(rnd, someNum(rnd, 1, 10))}
	return api.Link{Block: b, Cert: x, Config: someConfig(rnd, someNum(rnd, 0, lastEpoch))}
}

// someUnreadable: mostly a link of which one thing is off, though that may leave it one that is read.
func someUnreadable(rnd *rand.Rand) api.Link {
	l := someReadable(rnd)
	switch rnd.Intn(10) {
	case 0:
		l.Block.Epoch = someOdd(rnd)
	case 1:
		l.Block.Height = someOdd(rnd)
	case 2:
		l.Block.Requests = append(l.Block.Requests, batch(1, 1, 4).Requests...)
	case 3:
		l.Cert.Round = someOdd(rnd)
	case 4:
		l.Cert.Votes = someVotes(rnd, rnd.Intn(15))
	case 5:
		spoilVote(rnd, &l.Cert.Votes[rnd.Intn(len(l.Cert.Votes))])
	case 6:
		l.Config.Epoch = someOdd(rnd)
	case 7:
		l.Config.Members[rnd.Intn(len(l.Config.Members))].Id = someOdd(rnd)
	}
	return l
}
