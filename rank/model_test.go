package rank_test

import (
	"math"
	"math/rand"

	"wapentake/api"
	"wapentake/rank"
)

// The model finds a number's parts in a list of all whole numbers that a part may be, and tells the order by how many places are ahead.

// place is a place's parts, as whole numbers.
type place struct{ height, round int }

const rounds = api.MaxRound + 1 // how many a height has, from 0 on

// wholes: each of the numbers from 1 to MaxChain, or from 0 to MaxRound, by its float.
func wholes(least, most int) map[float64]int {
	all := map[float64]int{}
	for n, x := least, float64(least); n <= most; n, x = n+1, x+1 {
		all[x] = n
	}
	return all
}

var heightOf, roundOf = wholes(1, api.MaxChain), wholes(0, api.MaxRound)

func model(r complex128) (place, bool) {
	height, ok := heightOf[real(r)]
	if !ok {
		return place{}, false
	}
	round, ok := roundOf[imag(r)]
	if !ok {
		return place{}, false
	}
	return place{height, round}, true
}

// ahead: how many places are ahead of one.
func (p place) ahead() int { return (p.height-1)*rounds + p.round }

func (p place) number() complex128 { return complex(float64(p.height), float64(p.round)) }

func modelLess(a, b complex128) bool {
	p, ok := model(a)
	q, too := model(b)
	return ok && too && p.ahead() < q.ahead()
}

func modelLeader(n int, r complex128) int {
	p, ok := model(r)
	if n < 1 || !ok {
		return 0
	}
	left := p.height + p.round
	for left >= n {
		left -= n
	}
	return left
}

func modelPatience(base int, r complex128) int {
	switch {
	case base < 1:
		base = 1
	case base > 1<<20:
		base = 1 << 20
	}
	p, _ := model(r)
	for n := 0; n < p.round && n < 10; n++ {
		base *= 2
	}
	return base
}

// same: whether two numbers have the same parts, of which some may be no numbers.
func same(a, b complex128) bool { return samePart(real(a), real(b)) && samePart(imag(a), imag(b)) }

func samePart(a, b float64) bool { return a == b || math.IsNaN(a) && math.IsNaN(b) }

// parts: whole numbers within the limits and about them, what is close to these, what wraps round to them as an int of fewer bits, infinite ones and those that are none.
func parts() []float64 {
	all := []float64{math.NaN(), math.Float64frombits(0xfff8000000000001), math.Float64frombits(0x7ff0000000000001), math.Inf(1), math.Inf(-1), math.Copysign(0, -1)}
	all = append(all, math.SmallestNonzeroFloat64, 0x1p-1022, 0.1, 0.5, 1.5, 2.5, 511.5, 1023.5, 1024.5, math.Pi, math.MaxFloat32, math.MaxFloat64, 1e19, 1e300)
	for _, x := range []float64{0, 1, 2, 3, 10, 11, 512, 1023, 1024, 1025, 1026, 2047, 2048} {
		all = append(all, x, math.Nextafter(x, -1), math.Nextafter(x, 3000))
	}
	for _, bits := range []int{8, 16, 31, 32, 33, 52, 53, 54, 63, 64, 65, 128} {
		x := math.Ldexp(1, bits)
		all = append(all, x, math.Nextafter(x, 0), math.Nextafter(x, math.Inf(1)), x+1, x+2, x+1024)
	}
	for _, x := range all {
		all = append(all, -x)
	}
	return all
}

// numbers: all that have such parts, places and others.
func numbers() []complex128 {
	var all []complex128
	for _, height := range parts() {
		for _, round := range parts() {
			all = append(all, complex(height, round))
		}
	}
	return all
}

// edges: the places at the limits, and about them.
func edges() []place {
	var all []place
	for _, height := range []int{1, 2, 3, 511, 512, 1023, 1024} {
		for _, round := range []int{0, 1, 2, 9, 10, 11, 512, 1023, 1024} {
			all = append(all, place{height, round})
		}
	}
	return all
}

func somePlace(rnd *rand.Rand) place { return place{1 + rnd.Intn(api.MaxChain), rnd.Intn(rounds)} }

// everyPlace goes over all places in their order, as two nested loops tell it.
func everyPlace(yield func(place) bool) {
	for height := 1; height <= api.MaxChain; height++ {
		for round := 0; round <= api.MaxRound; round++ {
			if !yield(place{height, round}) {
				return
			}
		}
	}
}

// ints: whole numbers at the limits of parts, of n and of bases, and those of a machine.
func ints() []int {
	all := []int{0, 1, 2, 3, 4, 7, 10, 63, 64, 1023, 1024, 1025, 2047, 2048, 2049, 1<<20 - 1, 1 << 20, 1<<20 + 1, 1 << 21, math.MaxInt32, 1 << 31, 1 << 32, 1<<32 + 1, 1<<53 - 1, 1 << 53, 1<<53 + 1, 1 << 54, 1 << 62, math.MaxInt - 1, math.MaxInt, math.MinInt, math.MinInt + 1}
	for _, n := range all {
		all = append(all, -n)
	}
	return all
}

// told is all that is told of one number.
type told struct {
	good                            bool
	height, round, leader, patience int
}

func program(n, base int, r complex128) told {
	return told{rank.Good(r), rank.Height(r), rank.Round(r), rank.Leader(n, r), rank.Patience(base, r)}
}

func wanted(n, base int, r complex128) told {
	p, ok := model(r)
	return told{ok, p.height, p.round, modelLeader(n, r), modelPatience(base, r)}
}
