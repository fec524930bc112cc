package vote_test

import (
	"math"
	"math/rand"
	"slices"
	"testing"

	"wapentake/api"
	"wapentake/code"
	"wapentake/vote"
)

// cast: a vote that can be, of which nothing else is told.
func cast(kind, round, from int, d byte) api.Vote {
	return api.Vote{Kind: kind, Height: 1, Round: round, From: from, Digest: api.Digest{d}, Sig: sig(from, 1)}
}

// boxed: a box of votes no two of which have one place.
func boxed(t *testing.T, all ...api.Vote) *vote.Box {
	t.Helper()
	b := vote.NewBox()
	for _, v := range all {
		if !b.Add(v) {
			t.Errorf("%s is there already", short(v))
		}
	}
	return b
}

// holds: that a box has just the votes of a kind and round for a digest, in order.
func holds(t *testing.T, b *vote.Box, kind, round int, d api.Digest, wanted ...api.Vote) {
	t.Helper()
	if n := b.Count(kind, round, d); n != len(wanted) {
		t.Errorf("%d votes of the kind %d, the round %d, for %x, not %d", n, kind, round, d[:1], len(wanted))
	}
	if list := b.For(kind, round, d); !sameVotes(list, wanted) {
		t.Errorf("of the kind %d, the round %d, for %x: %d votes, not these %d", kind, round, d[:1], len(list), len(wanted))
	}
}

// wins: that a digest is the winner, of a round.
func wins(t *testing.T, b *vote.Box, kind, quorum int, digest api.Digest, round int) {
	t.Helper()
	if d, r, is := b.Winner(kind, quorum); d != digest || r != round || !is {
		t.Errorf("of %d of the kind %d: %x of %d, %t, not %x of %d", quorum, kind, d[:2], r, is, digest[:2], round)
	}
}

// winsNot: that there is no winner.
func winsNot(t *testing.T, b *vote.Box, kind, quorum int) {
	t.Helper()
	if d, r, is := b.Winner(kind, quorum); d != (api.Digest{}) || r != 0 || is {
		t.Errorf("of %d of the kind %d: %x of %d, %t", quorum, kind, d[:2], r, is)
	}
}

// empty: that a box has nothing.
func empty(t *testing.T, b *vote.Box) {
	t.Helper()
	for _, n := range odd() {
		for _, kind := range []int{1, 2, n} {
			holds(t, b, kind, n, api.Digest{})
			holds(t, b, kind, n, api.Digest{1})
			winsNot(t, b, kind, n)
		}
		if k := b.Voters(n); k != 0 {
			t.Errorf("%d voted in the round %d", k, n)
		}
		if k := b.Reached(n); k != -1 {
			t.Errorf("%d reached the round %d", n, k)
		}
	}
}

// TestP13_1NilBox: nothing is in it, nor comes into it.
func TestP13_1NilBox(t *testing.T) {
	var b *vote.Box
	empty(t, b)
	if b.Add(full()) || b.Add(full()) || b.Add(api.Vote{}) {
		t.Error("a vote is in a nil box")
	}
	empty(t, b)
}

func TestP13_1EmptyBox(t *testing.T) {
	empty(t, vote.NewBox())
}

// TestP13_1Example is the chapter's.
func TestP13_1Example(t *testing.T) {
	b := boxed(t, cast(1, 0, 1, 7))
	if b.Add(cast(1, 0, 1, 7)) {
		t.Error("the same vote once more")
	}
	holds(t, b, 1, 0, api.Digest{7}, cast(1, 0, 1, 7))
}

// TestP13_3SecondVote: of one member, Kind and Round, be it for the same digest or another one, by another signature, of another height or epoch.
func TestP13_3SecondVote(t *testing.T) {
	first := full()
	for name, change := range map[string]func(v *api.Vote){
		"the same":       func(v *api.Vote) {},
		"another digest": func(v *api.Vote) { v.Digest[31] ^= 1 },
		"for none":       func(v *api.Vote) { v.Digest = api.Digest{} },
		"a lesser one":   func(v *api.Vote) { v.Digest = api.Digest{31: 1} },
		"another leaf":   func(v *api.Vote) { v.Sig.Leaf++ },
		"no signature":   func(v *api.Vote) { v.Sig = api.Sig{} },
		"another epoch":  func(v *api.Vote) { v.Epoch++ },
		"another height": func(v *api.Vote) { v.Height++ },
	} {
		b := boxed(t, first)
		v := clone(first)
		change(&v)
		for range 3 {
			if b.Add(v) {
				t.Errorf("%s: counted once more", name)
			}
		}
		holds(t, b, 2, 7, first.Digest, first)
		if v.Digest != first.Digest {
			holds(t, b, 2, 7, v.Digest)
		}
		if b.Voters(0) != 1 || b.Voters(7) != 1 || b.Reached(1) != 7 || b.Reached(2) != -1 {
			t.Errorf("%s: %d voted", name, b.Voters(0))
		}
		wins(t, b, 2, 1, first.Digest, 7)
		winsNot(t, b, 2, 2)
	}
}

// TestP13_3Places: the same member votes in other rounds and of the other Kind, and others vote there; each of these is counted.
func TestP13_3Places(t *testing.T) {
	b := vote.NewBox()
	for _, kind := range []int{1, 2} {
		for _, round := range []int{0, 1, 2, 7, 63, 1023, 1024} {
			for _, from := range []int{1, 2, 7, 62, 63} {
				if !b.Add(cast(kind, round, from, 5)) || b.Add(cast(kind, round, from, 6)) || b.Add(cast(kind, round, from, 5)) {
					t.Errorf("the kind %d, the round %d, the member %d", kind, round, from)
				}
			}
		}
	}
	for _, kind := range []int{1, 2} {
		for _, round := range []int{0, 1, 2, 7, 63, 1023, 1024} {
			holds(t, b, kind, round, api.Digest{5}, cast(kind, round, 1, 5), cast(kind, round, 2, 5), cast(kind, round, 7, 5), cast(kind, round, 62, 5), cast(kind, round, 63, 5))
			holds(t, b, kind, round, api.Digest{6})
			holds(t, b, kind, round, api.Digest{})
		}
		holds(t, b, kind, 3, api.Digest{5})
		holds(t, b, kind, 1025, api.Digest{5})
		holds(t, b, kind, -1, api.Digest{5})
	}
	for _, kind := range []int{0, 3, -1, 1 << 32, 1<<32 + 1} {
		holds(t, b, kind, 1, api.Digest{5})
		winsNot(t, b, kind, 1)
	}
}

// TestP13_1Order: For answers by rising members, whatever order votes came in.
func TestP13_1Order(t *testing.T) {
	rnd := rand.New(rand.NewSource(11))
	var all, wanted []api.Vote
	for from := 1; from <= 63; from++ {
		v := cast(1, 3, from, byte(from%3))
		v.Sig = someSig(rnd)
		all = append(all, v)
		if from%3 == 1 {
			wanted = append(wanted, v)
		}
	}
	for range 50 {
		rnd.Shuffle(len(all), func(i, k int) { all[i], all[k] = all[k], all[i] })
		b := boxed(t, all...)
		holds(t, b, 1, 3, api.Digest{1}, wanted...)
		holds(t, b, 1, 3, api.Digest{1}, wanted...)
	}
	slices.Reverse(wanted)
	b := boxed(t, wanted...)
	slices.Reverse(wanted)
	holds(t, b, 1, 3, api.Digest{1}, wanted...)
}

// TestP13_1Voters: in a round, ahead of all, between two, and behind the last one; each member once, by their last round, whatever Kind.
func TestP13_1Voters(t *testing.T) {
	b := boxed(t,
		cast(1, 0, 1, 7), cast(2, 0, 1, 7), cast(1, 5, 1, 7), cast(1, 3, 1, 8),
		cast(1, 5, 2, 0), cast(2, 9, 2, 0), cast(1, 2, 2, 0),
		cast(2, 9, 3, 1), cast(1, 9, 3, 1),
		cast(1, 0, 63, 7),
		cast(2, 1024, 40, 2))
	for round, n := range map[int]int{math.MinInt: 5, -1: 5, 0: 5, 1: 4, 2: 4, 4: 4, 5: 4, 6: 3, 8: 3, 9: 3, 10: 1, 1023: 1, 1024: 1, 1025: 0, math.MaxInt: 0, 1 << 32: 0} {
		if got := b.Voters(round); got != n {
			t.Errorf("%d voted in the round %d, not %d", got, round, n)
		}
	}
	for n, round := range map[int]int{math.MinInt: -1, -1: -1, 0: -1, 1: 1024, 2: 9, 3: 9, 4: 5, 5: 0, 6: -1, 7: -1, 64: -1, math.MaxInt: -1, 1<<32 + 1: -1} {
		if got := b.Reached(n); got != round {
			t.Errorf("%d reached the round %d, not %d", n, got, round)
		}
	}
}

// TestP13_1Reached: a single member, in the first round; then others.
func TestP13_1Reached(t *testing.T) {
	b := boxed(t, cast(1, 0, 5, 0))
	if b.Voters(0) != 1 || b.Voters(1) != 0 || b.Reached(1) != 0 || b.Reached(2) != -1 || b.Reached(0) != -1 {
		t.Error("one vote in the round 0")
	}
	for from := 6; from <= 63; from++ {
		b.Add(cast(from%2+1, from, from, byte(from)))
		if b.Reached(from-4) != 0 || b.Reached(1) != from || b.Reached(from-3) != -1 || b.Reached(2) != (from-1)*min(1, from-6) {
			t.Errorf("up to %d", from)
		}
	}
	for from := 1; from <= 63; from++ {
		b.Add(cast(2, 1000, from, 1))
	}
	if b.Reached(63) != 1000 || b.Voters(1000) != 63 || b.Voters(1001) != 0 || b.Reached(64) != -1 {
		t.Error("all")
	}
}

// TestP13_1Winner: a quorum that is just met, and one vote less, of its own Kind alone.
func TestP13_1Winner(t *testing.T) {
	for quorum := 1; quorum <= 63; quorum++ {
		b := vote.NewBox()
		for from := 1; from < quorum; from++ {
			b.Add(cast(1, 4, from, 9))
			winsNot(t, b, 1, quorum)
		}
		b.Add(cast(2, 4, quorum, 9))
		b.Add(cast(1, 5, quorum, 9))
		b.Add(cast(1, 3, quorum, 9))
		if quorum > 1 {
			winsNot(t, b, 1, quorum)
			b.Add(cast(1, 4, quorum-1, 9))
			winsNot(t, b, 1, quorum)
		}
		b.Add(cast(1, 4, quorum, 9))
		if quorum > 1 {
			wins(t, b, 1, quorum, api.Digest{9}, 4)
			winsNot(t, b, 2, quorum)
			wins(t, b, 2, 1, api.Digest{9}, 4)
			wins(t, b, 1, 1, api.Digest{9}, 5)
		}
		winsNot(t, b, 1, quorum+1)
		winsNot(t, b, 1, math.MaxInt)
	}
}

// TestP13_1WinnerOfNone: zeros win nothing, however many they are.
func TestP13_1WinnerOfNone(t *testing.T) {
	b := vote.NewBox()
	for from := 1; from <= 40; from++ {
		b.Add(cast(1, 6, from, 0))
		b.Add(cast(2, 6, from, 0))
	}
	winsNot(t, b, 1, 1)
	winsNot(t, b, 2, 3)
	b.Add(cast(1, 2, 1, 3))
	b.Add(cast(1, 2, 2, 3))
	wins(t, b, 1, 2, api.Digest{3}, 2)
	winsNot(t, b, 1, 3)
	holds(t, b, 2, 7, api.Digest{})
	if n := b.Count(1, 6, api.Digest{}); n != 40 {
		t.Errorf("%d voted for none", n)
	}
	last := full()
	last.Digest = api.Digest{31: 1}
	b.Add(last)
	wins(t, b, 2, 1, api.Digest{31: 1}, 7)
}

// TestP13_1WinnerOfRounds: the greatest round in which there are so many, though later ones have others, and earlier ones more.
func TestP13_1WinnerOfRounds(t *testing.T) {
	var all []api.Vote
	for round, n := range map[int]int{0: 5, 1: 4, 10: 3, 1023: 2, 1024: 1} {
		for from := range n {
			all = append(all, cast(1, round, from+1, byte(100-n)), cast(2, 1024-round, from+1, byte(n)))
		}
	}
	rnd := rand.New(rand.NewSource(12))
	for range 20 {
		rnd.Shuffle(len(all), func(i, k int) { all[i], all[k] = all[k], all[i] })
		b := boxed(t, all...)
		for n, round := range []int{0, 1024, 1023, 10, 1, 0} {
			if n > 0 {
				wins(t, b, 1, n, api.Digest{byte(100 - n)}, round)
				wins(t, b, 2, n, api.Digest{5}, 1024)
			}
		}
		winsNot(t, b, 1, 6)
		winsNot(t, b, 2, 6)
	}
}

// TestP13_1WinnerOfDigests: of several of one round the least, byte by byte, however many voted for it, if they are enough.
func TestP13_1WinnerOfDigests(t *testing.T) {
	least := []api.Digest{{31: 1}, {31: 2}, {31: 255}, {30: 1}, {1: 255}, {1}, {1, 31: 1}, {127}, {128}, {255}, {255, 1}, ones()}
	if !slices.IsSortedFunc(least, func(a, b api.Digest) int { return slices.Compare(a[:], b[:]) }) {
		t.Fatal("digests that rise are wanted")
	}
	rnd := rand.New(rand.NewSource(13))
	for first := range least {
		var all []api.Vote
		from := 0
		for i, d := range least[first:] {
			for range 1 + min(i, 4) {
				from++
				v := cast(1, 8, from, 0)
				v.Digest = d
				all = append(all, v)
			}
		}
		for range 10 {
			rnd.Shuffle(len(all), func(i, k int) { all[i], all[k] = all[k], all[i] })
			b := boxed(t, all...)
			for n := 1; n <= min(5, len(least)-first); n++ {
				wins(t, b, 1, n, least[first+n-1], 8)
			}
		}
	}
}

// somePlace: a vote of few members, rounds and digests, so that many meet; rounds at their limits at times.
func somePlace(rnd *rand.Rand, most int) api.Vote {
	v := cast(1+rnd.Intn(2), rnd.Intn(5), 1+rnd.Intn(most), 0)
	if rnd.Intn(9) == 0 {
		v.Round = 1024 - rnd.Intn(3)
	}
	if rnd.Intn(9) == 0 {
		v.From = 63 - rnd.Intn(3)
	}
	n := rnd.Intn(5)
	v.Digest[31*(n%2)] = byte(n)
	v.Sig.Leaf = rnd.Int()
	return v
}

// agrees: that a box answers all that the model does.
func agrees(t *testing.T, rnd *rand.Rand, b *vote.Box, m modelBox) {
	t.Helper()
	for range 5 {
		v := somePlace(rnd, 9)
		holds(t, b, v.Kind, v.Round, v.Digest, m.votes(v.Kind, v.Round, v.Digest)...)
		round := []int{v.Round, v.Round + 1, v.Round - 1, someOdd(rnd)}[rnd.Intn(4)]
		if n := b.Voters(round); n != m.voters(round) {
			t.Errorf("%d voted in the round %d, not %d", n, round, m.voters(round))
		}
	}
	for n := -1; n <= 12; n++ {
		if round := b.Reached(n); round != m.reached(n) {
			t.Errorf("%d reached the round %d, not %d", n, round, m.reached(n))
		}
	}
	for quorum := 1; quorum <= 6; quorum++ {
		kind := 1 + quorum%2
		digest, round, is := m.winner(kind, quorum)
		if is {
			wins(t, b, kind, quorum, digest, round)
		} else {
			winsNot(t, b, kind, quorum)
		}
	}
}

// TestP13_3BoxOfAny: whatever comes, a box answers what the model does.
func TestP13_3BoxOfAny(t *testing.T) {
	rnd := rand.New(rand.NewSource(14))
	times := map[bool]int{}
	for range 60 {
		b, m := vote.NewBox(), modelBox{}
		most := 1 + rnd.Intn(12)
		for range rnd.Intn(120) {
			v := somePlace(rnd, most)
			is := m.add(v)
			if b.Add(v) != is {
				t.Fatalf("%s is there: %t", short(v), is)
			}
			times[is]++
			if rnd.Intn(30) == 0 {
				agrees(t, rnd, b, m)
			}
		}
		agrees(t, rnd, b, m)
		if t.Failed() {
			t.FailNow()
		}
	}
	if times[true] < 500 || times[false] < 500 {
		t.Errorf("both kinds are wanted among them: %v", times)
	}
}

// TestP13_3Once: over all digests together no more are counted of a Kind and Round than there are members.
func TestP13_3Once(t *testing.T) {
	b := vote.NewBox()
	added := 0
	for d := range 10 {
		for from := 1; from <= 5; from++ {
			for round := range 3 {
				for kind := 1; kind <= 2; kind++ {
					if b.Add(cast(kind, round, from, byte((d+from)%10))) {
						added++
					}
				}
			}
		}
	}
	if added != 5*3*2 || b.Voters(0) != 5 || b.Reached(5) != 2 || b.Reached(6) != -1 {
		t.Errorf("%d were added, %d voted", added, b.Voters(0))
	}
	for kind := 1; kind <= 2; kind++ {
		for round := range 3 {
			sum := 0
			for d := range 256 {
				sum += b.Count(kind, round, api.Digest{byte(d)})
			}
			if sum != 5 {
				t.Errorf("%d of the kind %d, the round %d", sum, kind, round)
			}
		}
	}
	winsNot(t, b, 1, 2)
	wins(t, b, 1, 1, api.Digest{1}, 2)
}

// TestP13_3Full: all members' votes of many rounds are counted.
func TestP13_3Full(t *testing.T) {
	b := vote.NewBox()
	for round := 0; round <= 1024; round += 64 {
		for from := 63; from >= 1; from-- {
			for kind := 1; kind <= 2; kind++ {
				if v := cast(kind, round, from, byte(1+round/64)); !b.Add(v) || b.Add(v) {
					t.Fatalf("%s", short(v))
				}
			}
		}
	}
	for round := 0; round <= 1024; round += 64 {
		if n := b.Count(2, round, api.Digest{byte(1 + round/64)}); n != 63 || b.Voters(round) != 63 {
			t.Errorf("%d voted in the round %d", n, round)
		}
	}
	wins(t, b, 1, 63, api.Digest{17}, 1024)
	winsNot(t, b, 1, 64)
}

// TestP13_1BoxOfBad: of votes that can't be nothing is promised, but that all calls end.
func TestP13_1BoxOfBad(t *testing.T) {
	rnd := rand.New(rand.NewSource(15))
	b := vote.NewBox()
	b.Add(api.Vote{})
	for range 2000 {
		v := api.Vote{Kind: someOdd(rnd), Epoch: someOdd(rnd), Height: someOdd(rnd), Round: someOdd(rnd), From: someOdd(rnd), Sig: someOffSig(rnd)}
		v.Digest[31] = byte(rnd.Intn(3))
		b.Add(v)
	}
	for _, n := range odd() {
		for _, k := range odd() {
			b.Count(n, k, api.Digest{})
			b.For(n, k, api.Digest{31: 1})
			b.Winner(n, k)
		}
		b.Voters(n)
		b.Reached(n)
	}
}

// TestP13_1TwoBoxes: they know nothing of one another.
func TestP13_1TwoBoxes(t *testing.T) {
	a, b := vote.NewBox(), vote.NewBox()
	if !a.Add(full()) {
		t.Error("the first box")
	}
	empty(t, b)
	if !b.Add(full()) || a.Add(full()) {
		t.Error("the second box")
	}
	holds(t, a, 2, 7, full().Digest, full())
	empty(t, vote.NewBox())
}

// spoil turns all that lists of a signature have, and what stands in their room to spare.
func spoil(s api.Sig) {
	for _, list := range [][]api.Digest{s.Once.Open, s.Once.Shut, s.Path} {
		list = list[:cap(list)]
		for i := range list {
			list[i] = api.Digest{170, 31: 85}
		}
	}
}

// roomy: a signature whose lists have room to spare, in which something stands, and the whole of these.
func roomy(s api.Sig) (api.Sig, [][]api.Digest) {
	var all [][]api.Digest
	for _, list := range []*[]api.Digest{&s.Once.Open, &s.Once.Shut, &s.Path} {
		n := len(*list)
		long := append(slices.Clone(*list), rising(77), ones(), rising(78))
		*list = long[:n]
		all = append(all, long)
	}
	return s, all
}

func cloneLists(all [][]api.Digest) [][]api.Digest {
	var list [][]api.Digest
	for _, row := range all {
		list = append(list, slices.Clone(row))
	}
	return list
}

// TestP13_4NothingIsChanged: by any call, in the room to spare either.
func TestP13_4NothingIsChanged(t *testing.T) {
	rnd := rand.New(rand.NewSource(16))
	for range 500 {
		v, p := someBad(rnd), someBadPlan(rnd)
		var lists, more [][]api.Digest
		v.Sig, lists = roomy(v.Sig)
		p.Sig, more = roomy(p.Sig)
		requests := append(p.Block.Requests, api.Request{Num: 7}, api.Request{Client: 65})
		p.Block.Requests = requests[:len(p.Block.Requests)]
		c := api.Config{Epoch: v.Epoch, Members: []api.Member{{Id: v.From}, {Id: p.From}, {Id: 9}, {Id: -9}}}
		spare := c.Members
		c.Members = spare[:2]
		ahead, behind := cloneLists(lists), cloneLists(more)
		asked, known := slices.Clone(requests), slices.Clone(spare)
		every(c, v, p)
		if !slices.EqualFunc(lists, ahead, slices.Equal) || !slices.EqualFunc(more, behind, slices.Equal) {
			t.Fatalf("%s or %s: a signature is changed", short(v), shortPlan(p))
		}
		if !slices.Equal(requests, asked) || !slices.Equal(spare, known) {
			t.Fatalf("%s: requests or members are changed", shortPlan(p))
		}
	}
}

// every does all that is done with a configuration, a vote and a plan.
func every(c api.Config, v api.Vote, p api.Plan) {
	vote.Good(v)
	vote.Signs(v)
	vote.Write(&code.Writer{}, v)
	vote.Right(c, v)
	vote.SignsPlan(p)
	vote.WritePlan(&code.Writer{}, p)
	vote.RightPlan(c, p)
	b := vote.NewBox()
	b.Add(v)
	b.Add(v)
	for _, u := range b.For(v.Kind, v.Round, v.Digest) {
		spoil(u.Sig)
	}
	b.Winner(v.Kind, 1)
}

// TestP13_4NothingIsKept: what is written into a vote's lists behind Add isn't seen, nor what is written into those that were answered.
func TestP13_4NothingIsKept(t *testing.T) {
	v := full()
	v.Sig, _ = roomy(v.Sig)
	b := boxed(t, v)
	wanted := clone(v)
	spoil(v.Sig)
	holds(t, b, 2, 7, wanted.Digest, wanted)
	list := b.For(2, 7, wanted.Digest)
	spoil(list[0].Sig)
	list[0] = api.Vote{}
	holds(t, b, 2, 7, wanted.Digest, wanted)
	again := clone(wanted)
	if b.Add(again) {
		t.Error("a second vote")
	}
	spoil(again.Sig)
	holds(t, b, 2, 7, wanted.Digest, wanted)
	v.Kind, v.Round, v.From, v.Digest = 1, 1, 1, api.Digest{}
	holds(t, b, 2, 7, wanted.Digest, wanted)
}

// TestP13_4AnswersAreNew: no two lists that are answered share memory, be it of one answer or of two, in the room to spare either.
func TestP13_4AnswersAreNew(t *testing.T) {
	shared := sig(3, 6)
	b := vote.NewBox()
	var wanted []api.Vote
	for from := 1; from <= 9; from++ {
		v := cast(1, 2, from, 5)
		v.Sig = shared
		b.Add(v)
		wanted = append(wanted, clone(v))
	}
	first, second := b.For(1, 2, api.Digest{5}), b.For(1, 2, api.Digest{5})
	for i := range first {
		spoil(first[i].Sig)
		if !sameVotes(first[i+1:], wanted[i+1:]) || !sameVotes(second, wanted) {
			t.Fatalf("the vote %d shares a list", i)
		}
	}
	for _, v := range second {
		s := v.Sig
		_, _, _ = append(s.Once.Open, ones()), append(s.Once.Shut, ones()), append(s.Path, ones())
	}
	_ = append(second, api.Vote{})
	if !sameVotes(second, wanted) {
		t.Error("an answer's lists run into one another")
	}
	holds(t, b, 1, 2, api.Digest{5}, wanted...)
	if !sameSig(shared, sig(3, 6)) {
		t.Error("what was handed in is changed")
	}
}

// TestP13_4WrittenIsNew: what was read shares nothing with bytes, or with what was read before.
func TestP13_4WrittenIsNew(t *testing.T) {
	v, p := full(), fullPlan(2)
	all := []byte(modelBytes(v) + modelBytes(v) + modelPlanBytes(p) + modelPlanBytes(p))
	r := code.Read(all)
	a, b, c, d := vote.Read(r), vote.Read(r), vote.ReadPlan(r), vote.ReadPlan(r)
	clear(all)
	spoil(a.Sig)
	spoil(c.Sig)
	clear(c.Block.Requests[:cap(c.Block.Requests)])
	if !same(b, v) || !samePlan(d, p) || !r.End() {
		t.Error("what was read shares memory")
	}
	w := &code.Writer{}
	vote.Write(w, v)
	vote.WritePlan(w, p)
	spoil(v.Sig)
	spoil(p.Sig)
	clear(p.Block.Requests)
	if string(w.Bytes()) != modelBytes(full())+modelPlanBytes(fullPlan(2)) {
		t.Error("what was written is kept")
	}
}
