package rank_test

import (
	"math"
	"math/big"
	"math/rand"
	"testing"

	"wapentake/api"
	"wapentake/rank"
)

// TestP7_1Example is the chapter's.
func TestP7_1Example(t *testing.T) {
	if r := rank.At(3, 2); r != 3+2i || rank.Leader(4, r) != 1 || rank.Patience(10, r) != 40 {
		t.Errorf("At(3, 2) is %v, its leader of 4 %d, its patience %d", r, rank.Leader(4, r), rank.Patience(10, r))
	}
}

// TestP7_1Known: answers that are worked out by hand.
func TestP7_1Known(t *testing.T) {
	for _, c := range []struct {
		r          complex128
		n, base    int
		wanted     told
		next, rise complex128
	}{
		{1, 4, 10, told{true, 1, 0, 1, 10}, 1 + 1i, 2},
		{3 + 2i, 4, 10, told{true, 3, 2, 1, 40}, 3 + 3i, 4},
		{7 + 9i, 4, 3, told{true, 7, 9, 0, 1536}, 7 + 10i, 8},
		{7 + 10i, 4, 3, told{true, 7, 10, 1, 3072}, 7 + 11i, 8},
		{7 + 11i, 4, 3, told{true, 7, 11, 2, 3072}, 7 + 12i, 8},
		{1024 + 1024i, 10, 1, told{true, 1024, 1024, 8, 1024}, 1024 + 1025i, 1025},
		{1024 + 1024i, 3000, 1 << 20, told{true, 1024, 1024, 2048, 1 << 30}, 1024 + 1025i, 1025},
		{2, 1, 0, told{true, 2, 0, 0, 1}, 2 + 1i, 3},
		{0, 4, 10, told{patience: 10}, 1i, 1},
		{5i, 4, 10, told{patience: 10}, 6i, 1},
		{1025 + 3i, 4, 10, told{patience: 10}, 1025 + 4i, 1026},
		{3 + 1025i, 4, 10, told{patience: 10}, 3 + 1026i, 4},
		{3 - 1i, 4, 10, told{patience: 10}, 3, 4},
		{-3 + 2i, 4, 10, told{patience: 10}, -3 + 3i, -2},
		{3.5 + 2i, 4, 10, told{patience: 10}, 3.5 + 3i, 4.5},
		{3 + 2.5i, 4, 10, told{patience: 10}, 3 + 3.5i, 4},
	} {
		if got := program(c.n, c.base, c.r); got != c.wanted {
			t.Errorf("%v, n %d, base %d: %+v, not %+v", c.r, c.n, c.base, got, c.wanted)
		}
		if next, rise := rank.Next(c.r), rank.Rise(c.r); next != c.next || rise != c.rise {
			t.Errorf("%v: next %v, rise %v", c.r, next, rise)
		}
	}
}

// TestP7_1EveryPlace: all that is told of each place.
func TestP7_1EveryPlace(t *testing.T) {
	for p := range everyPlace {
		r, n, base := p.number(), 1+p.ahead()%11, p.ahead()%17
		if rank.At(p.height, p.round) != r {
			t.Fatalf("%+v: at %v", p, rank.At(p.height, p.round))
		}
		if got := program(n, base, r); got != wanted(n, base, r) || !got.good || got.height != p.height || got.round != p.round {
			t.Fatalf("%v, n %d, base %d: %+v", r, n, base, got)
		}
		if next, rise := rank.Next(r), rank.Rise(r); next != rank.At(p.height, p.round+1) || rise != rank.At(p.height+1, 0) {
			t.Fatalf("%v: next %v, rise %v", r, next, rise)
		}
	}
}

// TestP7_1AnyNumber: all that is told of numbers of all kinds, of which most are no places.
func TestP7_1AnyNumber(t *testing.T) {
	good := 0
	for _, r := range numbers() {
		for _, n := range []int{1, 4, 2049} {
			got := program(n, 10*n, r)
			if got != wanted(n, 10*n, r) {
				t.Fatalf("%v, n %d: %+v, not %+v", r, n, got, wanted(n, 10*n, r))
			}
			if !got.good && got != (told{patience: 10 * n}) {
				t.Fatalf("%v is no place: %+v", r, got)
			}
			if got.good {
				good++
			}
		}
	}
	if good == 0 {
		t.Error("places are wanted among them")
	}
}

// TestP7_1NoPlace: what only one of both parts does wrong, each other thing being right.
func TestP7_1NoPlace(t *testing.T) {
	nan, inf, most := math.NaN(), math.Inf(1), math.MaxFloat64
	for _, r := range []complex128{
		complex(0, 0), complex(-1, 0), complex(1025, 0), complex(1.5, 0), complex(0.5, 0), complex(1024.5, 0), complex(nan, 0), complex(inf, 0), complex(-inf, 0), complex(most, 0), complex(-most, 0),
		complex(math.Nextafter(1, 0), 0), complex(math.Nextafter(1, 2), 0), complex(math.Nextafter(1024, 0), 0), complex(math.Nextafter(1024, 2000), 0),
		complex(1, -1), complex(1, 1025), complex(1, 1.5), complex(1, 0.5), complex(1, -0.5), complex(1, 1024.5), complex(1, nan), complex(1, inf), complex(1, -inf), complex(1, most), complex(1, -most),
		complex(1, math.SmallestNonzeroFloat64), complex(1, -math.SmallestNonzeroFloat64), complex(1, math.Nextafter(1024, 0)), complex(1, math.Nextafter(1024, 2000)),
		complex(nan, nan), complex(inf, inf), complex(inf, nan), complex(nan, inf), complex(-inf, inf),
	} {
		if got := program(4, 10, r); got != (told{patience: 10}) {
			t.Errorf("%v: %+v", r, got)
		}
		for _, p := range edges() {
			if rank.Less(r, p.number()) || rank.Less(p.number(), r) {
				t.Errorf("%v and %v stand in an order", r, p.number())
			}
		}
		if rank.Less(r, r) {
			t.Errorf("%v is ahead of itself", r)
		}
	}
}

// TestP7_1NegativeNought: it is the whole number 0, as a round.
func TestP7_1NegativeNought(t *testing.T) {
	r := complex(3, math.Copysign(0, -1))
	if got := program(4, 10, r); got != (told{true, 3, 0, 3, 10}) {
		t.Errorf("%v: %+v", r, got)
	}
	if rank.Less(r, 3) || rank.Less(3, r) || !rank.Less(r, 3+1i) || rank.Next(r) != 3+1i || rank.Rise(r) != 4 {
		t.Errorf("%v isn't 3", r)
	}
	if rank.Good(complex(math.Copysign(0, -1), 1)) {
		t.Error("no height is 0")
	}
}

// TestP7_1At: any two whole numbers, each to the float that is closest, in its own part.
func TestP7_1At(t *testing.T) {
	for _, height := range ints() {
		for _, round := range ints() {
			r := rank.At(height, round)
			if real(r) != closest(height) || imag(r) != closest(round) {
				t.Fatalf("At(%d, %d) is %v", height, round, r)
			}
			inside := 1 <= height && height <= api.MaxChain && 0 <= round && round <= api.MaxRound
			if rank.Good(r) != inside {
				t.Fatalf("%v is a place: %t", r, !inside)
			}
		}
	}
}

func closest(n int) float64 {
	x, _ := new(big.Float).SetInt64(int64(n)).Float64()
	return x
}

// TestP7_1NextAndRise: of any number, place or none.
func TestP7_1NextAndRise(t *testing.T) {
	for _, r := range numbers() {
		if next, wanted := rank.Next(r), complex(real(r), imag(r)+1); !same(next, wanted) {
			t.Fatalf("next to %v: %v, not %v", r, next, wanted)
		}
		if rise, wanted := rank.Rise(r), complex(real(r)+1, 0); !same(rise, wanted) {
			t.Fatalf("above %v: %v, not %v", r, rise, wanted)
		}
	}
}

// TestP7_1AtTheLimits: the last round has no next place, the last height none above it, and what is no place may have both.
func TestP7_1AtTheLimits(t *testing.T) {
	for p := range everyPlace {
		r := p.number()
		if next := rank.Next(r); rank.Good(next) != (p.round < api.MaxRound) {
			t.Fatalf("%v is a place: %t", next, rank.Good(next))
		}
		if rise := rank.Rise(r); rank.Good(rise) != (p.height < api.MaxChain) {
			t.Fatalf("%v is a place: %t", rise, rank.Good(rise))
		}
	}
	if !rank.Good(rank.Next(5-1i)) || !rank.Good(rank.Rise(9i)) || !rank.Good(rank.Rise(complex(5, math.NaN()))) || rank.Good(rank.Next(math.MaxInt)) {
		t.Error("Next or Rise of no place")
	}
}

// TestP7_1Less: any two numbers, by the model.
func TestP7_1Less(t *testing.T) {
	rnd := rand.New(rand.NewSource(1))
	all := numbers()
	for range 1000000 {
		a, b := all[rnd.Intn(len(all))], somePlace(rnd).number()
		if rnd.Intn(3) == 0 {
			b = all[rnd.Intn(len(all))]
		}
		if rnd.Intn(2) == 0 {
			a, b = b, a
		}
		if rank.Less(a, b) != modelLess(a, b) {
			t.Fatalf("%v is ahead of %v: %t", a, b, rank.Less(a, b))
		}
	}
}

// TestP7_1Leader: any n, and nobody leads below 1.
func TestP7_1Leader(t *testing.T) {
	for _, p := range edges() {
		r, sum := p.number(), p.height+p.round
		for _, n := range append(ints(), sum-1, sum, sum+1, 5, 6, 9) {
			if got := rank.Leader(n, r); got != modelLeader(n, r) || got < 0 || n < 1 && got != 0 {
				t.Errorf("%v: of %d leads %d, not %d", r, n, got, modelLeader(n, r))
			}
		}
		if got := rank.Leader(math.MaxInt, r); got != sum {
			t.Errorf("%v: of very many leads %d", r, got)
		}
	}
	for _, n := range ints() {
		for _, r := range []complex128{0, 1i, 2 - 1i, 1025 + 2i, 2 + 1025i, 1.5 + 2i, 2 + 1.5i, complex(math.NaN(), 1), complex(1, math.Inf(1))} {
			if got := rank.Leader(n, r); got != 0 {
				t.Errorf("%v is no place: of %d leads %d", r, n, got)
			}
		}
	}
}

// TestP7_1Patience: any base in rounds up to ten and above, whatever the height.
func TestP7_1Patience(t *testing.T) {
	for _, base := range append(ints(), 5, 6, 100, 1000) {
		for round := range rounds {
			r := complex(float64(1+round*7%api.MaxChain), float64(round))
			if got := rank.Patience(base, r); got != modelPatience(base, r) {
				t.Fatalf("base %d, %v: %d, not %d", base, r, got, modelPatience(base, r))
			}
		}
		for _, r := range []complex128{0, 5i, 2 - 1i, 1025 + 2i, 2 + 1025i, 1.5 + 2i, 2 + 1.5i, complex(math.NaN(), 1), complex(1, math.Inf(1)), complex(math.Inf(-1), 3)} {
			if got := rank.Patience(base, r); got != modelPatience(base, 1) {
				t.Errorf("base %d, %v is no place: %d", base, r, got)
			}
		}
	}
	for _, c := range []struct{ base, wanted int }{{math.MinInt, 1}, {-1, 1}, {0, 1}, {1, 1}, {2, 2}, {1<<20 - 1, 1<<20 - 1}, {1 << 20, 1 << 20}, {1<<20 + 1, 1 << 20}, {math.MaxInt, 1 << 20}} {
		for round, times := range map[complex128]int{0: 1, 1: 2, 9: 512, 10: 1024, 11: 1024, 1024: 1024} {
			if got := rank.Patience(c.base, 5+round*1i); got != c.wanted*times {
				t.Errorf("base %d, round %v: %d", c.base, round, got)
			}
		}
	}
}

// TestP7_2OneOrder: of each two places about the limits, and of many others, the one with fewer places ahead is ahead, and none is ahead of itself.
func TestP7_2OneOrder(t *testing.T) {
	rnd := rand.New(rand.NewSource(2))
	all := edges()
	for range 1000 {
		all = append(all, somePlace(rnd))
	}
	for _, p := range all {
		for _, q := range all {
			if rank.Less(p.number(), q.number()) != (p.ahead() < q.ahead()) {
				t.Fatalf("%v is ahead of %v: %t", p.number(), q.number(), p.ahead() >= q.ahead())
			}
		}
	}
}

// TestP7_2Neighbours: each place is behind the one ahead of it, and not the other way round.
func TestP7_2Neighbours(t *testing.T) {
	last := complex128(0)
	for p := range everyPlace {
		r := p.number()
		if rank.Less(r, r) || p.ahead() > 0 && (!rank.Less(last, r) || rank.Less(r, last)) {
			t.Fatalf("%v and %v stand in another order", last, r)
		}
		last = r
	}
}

// TestP7_2Behind: Next and Rise of a place are behind it, if they are places.
func TestP7_2Behind(t *testing.T) {
	for p := range everyPlace {
		r := p.number()
		next, rise := rank.Next(r), rank.Rise(r)
		if rank.Good(next) && (!rank.Less(r, next) || rank.Less(next, r)) {
			t.Fatalf("%v isn't behind %v", next, r)
		}
		if rank.Good(rise) && (!rank.Less(r, rise) || rank.Less(rise, r)) {
			t.Fatalf("%v isn't behind %v", rise, r)
		}
		if rank.Good(next) && rank.Good(rise) && !rank.Less(next, rise) {
			t.Fatalf("%v isn't ahead of %v", next, rise)
		}
	}
}

// TestP7_2NothingBetween: no place is between one and its Next, and none but the same height's is between one and its Rise.
func TestP7_2NothingBetween(t *testing.T) {
	for _, p := range edges() {
		r := p.number()
		next, rise, between := rank.Next(r), rank.Rise(r), 0
		for q := range everyPlace {
			x := q.number()
			if rank.Less(r, x) && rank.Less(x, next) {
				t.Fatalf("%v is between %v and its Next", x, r)
			}
			if rank.Less(r, x) && rank.Less(x, rise) {
				between++
			}
		}
		if rank.Good(rise) && between != api.MaxRound-p.round {
			t.Errorf("%d places are between %v and its Rise", between, r)
		}
	}
	for _, x := range numbers() {
		if rank.Less(3+2i, x) && rank.Less(x, rank.Next(3+2i)) {
			t.Errorf("%v is between 3+2i and its Next", x)
		}
	}
}

// leadOnce: that in n rounds from one place on each of n leads once.
func leadOnce(t *testing.T, n int, from complex128) {
	t.Helper()
	times, r := make([]int, n), from
	for range n {
		if !rank.Good(r) {
			t.Fatalf("%v is no place", r)
		}
		leader := rank.Leader(n, r)
		if leader < 0 || leader >= n {
			t.Fatalf("%v: of %d leads %d", r, n, leader)
		}
		times[leader]++
		r = rank.Next(r)
	}
	for leader, count := range times {
		if count != 1 {
			t.Fatalf("of %d from %v on %d leads %d times", n, from, leader, count)
		}
	}
}

// TestP7_3Members: as many as a configuration may have, and some more, from each of many places on.
func TestP7_3Members(t *testing.T) {
	for n := 1; n <= api.MaxMembers+2; n++ {
		for height := 1; height <= api.MaxChain; height += 1 + height/8 {
			for round := 0; round+n <= rounds; round++ {
				leadOnce(t, n, rank.At(height, round))
			}
		}
		for height := 1; height <= api.MaxChain; height++ {
			leadOnce(t, n, rank.At(height, 0))
			leadOnce(t, n, rank.At(height, rounds-n))
		}
	}
}

// TestP7_3Many: as many as a height has rounds, which are the most that can lead in one.
func TestP7_3Many(t *testing.T) {
	for _, n := range []int{13, 63, 64, 100, 512, 1000, 1023, 1024, 1025} {
		for _, height := range []int{1, 2, 512, 1023, 1024} {
			for _, round := range []int{0, 1, (rounds - n) / 2, rounds - n} {
				if round+n <= rounds {
					leadOnce(t, n, rank.At(height, round))
				}
			}
		}
	}
}

// TestP7_3InTurn: the next round's leader is the next one, and the next height begins with the next one too.
func TestP7_3InTurn(t *testing.T) {
	for p := range everyPlace {
		n := 1 + p.ahead()%13
		r, leader := p.number(), rank.Leader(n, p.number())
		if next := rank.Next(r); rank.Good(next) && rank.Leader(n, next) != (leader+1)%n {
			t.Fatalf("of %d leads %d at %v, and %d next", n, leader, r, rank.Leader(n, next))
		}
		if rise := rank.Rise(r); p.round == 0 && rank.Good(rise) && rank.Leader(n, rise) != (leader+1)%n {
			t.Fatalf("of %d leads %d at %v, and %d at %v", n, leader, r, rank.Leader(n, rise), rise)
		}
	}
}
