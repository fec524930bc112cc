package vote

import (
	"bytes"
	"maps"
	"slices"

	"wapentake/api"
)

// Box is votes of one height: of each member the first one of each kind and round.
type Box struct {
	votes map[place]api.Vote
}

// place is where a member votes once.
type place struct{ kind, round, from int }

// choice is what members vote for.
type choice struct {
	round  int
	digest api.Digest
}

// NewBox: one without votes.
func NewBox() *Box { return &Box{votes: map[place]api.Vote{}} }

// Add: a vote is counted; false: its member voted there.
func (b *Box) Add(v api.Vote) bool {
	if b == nil {
		return false
	}
	at := place{v.Kind, v.Round, v.From}
	if _, is := b.votes[at]; is {
		return false
	}
	b.votes[at] = clone(v)
	return true
}

// Count: how many voted for a digest.
func (b *Box) Count(kind, round int, d api.Digest) int { return len(b.members(kind, round, d)) }

// For: the votes for a digest, by rising members.
func (b *Box) For(kind, round int, d api.Digest) []api.Vote {
	var list []api.Vote
	for _, from := range b.members(kind, round, d) {
		list = append(list, clone(b.votes[place{kind, round, from}]))
	}
	return list
}

// Voters: how many members voted in a round or a later one, whatever kind.
func (b *Box) Voters(round int) int {
	n := 0
	for _, last := range b.last() {
		if last >= round {
			n++
		}
	}
	return n
}

// Reached: the greatest round in which, or behind which, so many members voted; -1: there is none.
func (b *Box) Reached(n int) int {
	rounds := slices.Sorted(maps.Values(b.last()))
	if !within(n, 1, len(rounds)) {
		return -1
	}
	return rounds[len(rounds)-n]
}

// Winner: the digest of a block that so many voted for, in the last round in which there is one, and that round; the least one of several.
func (b *Box) Winner(kind, quorum int) (api.Digest, int, bool) {
	best, found := choice{}, false
	for c, n := range b.tally(kind) {
		if n >= quorum && (!found || c.beats(best)) {
			best, found = c, true
		}
	}
	return best.digest, best.round, found
}

// all: the votes; none of a nil box.
func (b *Box) all() map[place]api.Vote {
	if b == nil {
		return nil
	}
	return b.votes
}

// members: who voted for a digest; by rising numbers, since a map has no order that may be told.
func (b *Box) members(kind, round int, d api.Digest) []int {
	var list []int
	for at, v := range b.all() {
		if at.kind == kind && at.round == round && v.Digest == d {
			list = append(list, at.from)
		}
	}
	slices.Sort(list)
	return list
}

// last: the last round in which each member voted, whatever kind.
func (b *Box) last() map[int]int {
	rounds := map[int]int{}
	for at := range b.all() {
		rounds[at.from] = max(rounds[at.from], at.round)
	}
	return rounds
}

// tally: how many votes of a kind each block has in each round.
func (b *Box) tally(kind int) map[choice]int {
	counts := map[choice]int{}
	for at, v := range b.all() {
		if at.kind == kind && v.Digest != (api.Digest{}) {
			counts[choice{at.round, v.Digest}]++
		}
	}
	return counts
}

// beats: whether a choice is the one to tell of two; no two are alike, so that nothing hangs on a map's order.
func (c choice) beats(other choice) bool {
	if c.round != other.round {
		return c.round > other.round
	}
	return bytes.Compare(c.digest[:], other.digest[:]) < 0
}

// clone: a vote that shares no memory with another one.
func clone(v api.Vote) api.Vote {
	v.Sig.Once.Open = slices.Clone(v.Sig.Once.Open)
	v.Sig.Once.Shut = slices.Clone(v.Sig.Once.Shut)
	v.Sig.Path = slices.Clone(v.Sig.Path)
	return v
}
