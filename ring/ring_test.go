package ring_test

import (
	"crypto/sha256"
	"encoding/hex"
	"math/rand"
	"slices"
	"sync"
	"testing"

	"wapentake/api"
	"wapentake/code"
	"wapentake/keys"
	"wapentake/ring"
)

const heights = api.MaxHeight + 1 // how many there are, from 0 on

func expect(t *testing.T, what string, got api.Digest, wanted string) {
	t.Helper()
	if hex.EncodeToString(got[:]) != wanted {
		t.Errorf("%s: %x, not %s", what, got, wanted)
	}
}

// added: a tree's key, which must come into the ring.
func added(t *testing.T, r *ring.Ring, seed api.Digest, height int) api.Key {
	t.Helper()
	k, e := r.Add(seed, height)
	if e != api.OK {
		t.Fatalf("no tree of the height %d: %d", height, e)
	}
	return k
}

// taken takes some numbers, which must be those from one on.
func taken(t *testing.T, r *ring.Ring, k api.Key, from, count int) {
	t.Helper()
	for n := from; n < from+count; n++ {
		if got, e := r.Take(k); got != n || e != api.OK {
			t.Fatalf("number %d, error %d, not number %d", got, e, n)
		}
	}
}

// signed: a signature, which must be layer 5's.
func signed(t *testing.T, r *ring.Ring, k api.Key, n int, d api.Digest) api.Sig {
	t.Helper()
	s, e := r.Sign(k, n, d)
	if e != api.OK || s.Leaf != n || !keys.Check(k, d, s) {
		t.Fatalf("number %d: leaf %d, error %d", n, s.Leaf, e)
	}
	return s
}

// shut: that a number doesn't sign.
func shut(t *testing.T, r *ring.Ring, k api.Key, n int) {
	t.Helper()
	if s, e := r.Sign(k, n, ones()); e != api.ErrOther || !zero(s) {
		t.Errorf("number %d: leaf %d, %d digests, error %d", n, s.Leaf, len(s.Once.Open), e)
	}
}

// left: that so many numbers are, and the next one is the first of them.
func left(t *testing.T, r *ring.Ring, k api.Key, count int) {
	t.Helper()
	if got := r.Left(k); got != count {
		t.Errorf("%d numbers are left, not %d", got, count)
	}
}

// TestP6_1Example is the chapter's.
func TestP6_1Example(t *testing.T) {
	r, d := ring.New(), api.Digest{9}
	k := added(t, r, rising(), 1)
	taken(t, r, k, 0, 2)
	if n, e := r.Take(k); n != 0 || e != api.ErrSpent {
		t.Errorf("number %d, error %d", n, e)
	}
	signed(t, r, k, 0, d)
	if s, e := r.Sign(k, 0, d); e != api.ErrOther || !zero(s) {
		t.Errorf("twice: error %d", e)
	}
}

// TestP6_1Known: roots and a signature that another program than Go's made of the document's words.
func TestP6_1Known(t *testing.T) {
	r := ring.New()
	ofNoughts, ofOnes := added(t, r, api.Digest{}, 3), added(t, r, ones(), 0)
	expect(t, "noughts", ofNoughts.Root, "bd3566f5f49d20a70d3ecbcdabb5d444b34701a08bf2436aac56fdd26f423bab")
	expect(t, "ones", ofOnes.Root, "4914a0e15c9abd2992a1ab87687198caf6ac077ededad564f458375cbe5a128d")
	k := added(t, r, rising(), 3)
	expect(t, "rising", k.Root, "ac5e3695fbad48e2e83c3a6cb8afd4621fe319d25ca934e538a00984be1df2c2")
	taken(t, r, k, 0, 6)
	w := &code.Writer{}
	if !keys.Write(w, signed(t, r, k, 5, sha256.Sum256([]byte("abc")))) {
		t.Fatal("the signature isn't written")
	}
	expect(t, "a signature, written", sha256.Sum256(w.Bytes()), "1db9f8b101e86009cce6f7a96d1f90092fe65b9292b4ae0f905acfd8a047936b")
	if got := r.Keys(); !slices.Equal(got, []api.Key{ofOnes, k, ofNoughts}) {
		t.Errorf("the keys %x", got)
	}
}

func TestP6_1Empty(t *testing.T) {
	if all := ring.New().Keys(); len(all) != 0 {
		t.Errorf("a new ring: %x", all)
	}
}

func TestP6_1Add(t *testing.T) {
	rnd := rand.New(rand.NewSource(1))
	r := ring.New()
	for height := range heights {
		for _, seed := range []api.Digest{{}, ones(), someDigest(rnd)} {
			x, _ := keys.New(seed, height)
			k := added(t, r, seed, height)
			if k != x.Key() {
				t.Errorf("height %d: %x, not %x", height, k, x.Key())
			}
			left(t, r, k, 1<<height)
			shut(t, r, k, 0)
		}
	}
	if len(r.Keys()) != 3*heights {
		t.Errorf("%d trees", len(r.Keys()))
	}
}

func TestP6_1NoSuchHeight(t *testing.T) {
	r := ring.New()
	k := added(t, r, rising(), 2)
	taken(t, r, k, 0, 1)
	for _, height := range append(odd(), 7, 8, 31, 32, 62, 63, 64) {
		if got, e := r.Add(rising(), height); e != api.ErrArg || got != (api.Key{}) {
			t.Errorf("height %d: %x, error %d", height, got, e)
		}
	}
	left(t, r, k, 3)
	if !slices.Equal(r.Keys(), []api.Key{k}) {
		t.Errorf("the keys %x", r.Keys())
	}
}

// TestP6_1AddAgain: a tree that is there goes on from where it was.
func TestP6_1AddAgain(t *testing.T) {
	for height := range heights {
		r := ring.New()
		k := added(t, r, rising(), height)
		again := func() {
			if got, e := r.Add(rising(), height); e != api.ErrOther || got != (api.Key{}) {
				t.Fatalf("height %d again: %x, error %d", height, got, e)
			}
		}
		again()
		taken(t, r, k, 0, 1)
		again()
		left(t, r, k, 1<<height-1)
		signed(t, r, k, 0, ones())
		again()
		shut(t, r, k, 0)
		left(t, r, k, 1<<height-1)
	}
}

// TestP6_1OneSeed: of one seed there is a tree of each height, and each has its own numbers.
func TestP6_1OneSeed(t *testing.T) {
	r := ring.New()
	var all []api.Key
	for height := range heights {
		all = append(all, added(t, r, rising(), height))
	}
	for height, k := range all {
		taken(t, r, k, 0, 1)
		for other, o := range all {
			n := 1 << other
			if other <= height {
				n--
			}
			left(t, r, o, n)
		}
		signed(t, r, k, 0, ones())
	}
}

func TestP6_1Take(t *testing.T) {
	for height := range heights {
		r := ring.New()
		k, count := added(t, r, rising(), height), 1<<height
		for n := range count {
			left(t, r, k, count-n)
			taken(t, r, k, n, 1)
		}
		left(t, r, k, 0)
		for range 3 {
			if n, e := r.Take(k); n != 0 || e != api.ErrSpent {
				t.Errorf("height %d, spent: number %d, error %d", height, n, e)
			}
		}
		for n := count - 1; n >= 0; n-- {
			signed(t, r, k, n, ones())
		}
		if n, e := r.Take(k); n != 0 || e != api.ErrSpent {
			t.Errorf("height %d, used: number %d, error %d", height, n, e)
		}
	}
}

// TestP6_1Sign: open numbers sign in any order, whatever was taken since, and as layer 5 does.
func TestP6_1Sign(t *testing.T) {
	rnd := rand.New(rand.NewSource(2))
	for height := range heights {
		seed := someDigest(rnd)
		x, _ := keys.New(seed, height)
		r := ring.New()
		k := added(t, r, seed, height)
		taken(t, r, k, 0, 1<<height)
		for _, n := range rnd.Perm(1 << height) {
			d := someDigest(rnd)
			wanted, _ := x.Sign(n, d)
			if got := signed(t, r, k, n, d); !same(got, wanted) {
				t.Fatalf("number %d of height %d: another signature than layer 5's", n, height)
			}
			shut(t, r, k, n)
		}
	}
}

// TestP6_1NotOpen: a number that isn't the tree's, or wasn't taken, signs nothing, and may yet be taken.
func TestP6_1NotOpen(t *testing.T) {
	for height := range heights {
		r := ring.New()
		k, count := added(t, r, rising(), height), 1<<height
		for n := range count {
			for _, other := range append(odd(), n, n+1, count-1, count, count+1, -count) {
				shut(t, r, k, other)
			}
			left(t, r, k, count-n)
			taken(t, r, k, n, 1)
			signed(t, r, k, n, ones())
		}
	}
}

// TestP6_1Skip: from each next number to each other one, some of the numbers below it being open, some used.
func TestP6_1Skip(t *testing.T) {
	const count = 8
	for next := range count + 1 {
		for to := -2; to <= count+3; to++ {
			r := ring.New()
			k := added(t, r, rising(), 3)
			taken(t, r, k, 0, next)
			for n := 0; n < next; n += 3 {
				signed(t, r, k, n, ones())
			}
			if e := r.Skip(k, to); e != api.OK {
				t.Fatalf("from %d to %d: error %d", next, to, e)
			}
			behind := min(max(next, to), count)
			left(t, r, k, count-behind)
			for n := -1; n <= count; n++ {
				if 0 <= n && to <= n && n < next && n%3 != 0 {
					signed(t, r, k, n, ones())
				}
				shut(t, r, k, n)
			}
			taken(t, r, k, behind, count-behind)
			if _, e := r.Take(k); e != api.ErrSpent {
				t.Errorf("from %d to %d: all is taken, error %d", next, to, e)
			}
		}
	}
}

// TestP6_1SkipFar: whatever number it is, none is above those of the tree, and none below leads back.
func TestP6_1SkipFar(t *testing.T) {
	for height := range heights {
		for _, to := range odd() {
			r := ring.New()
			k, count := added(t, r, rising(), height), 1<<height
			taken(t, r, k, 0, 1)
			if e := r.Skip(k, to); e != api.OK {
				t.Fatalf("height %d, to %d: error %d", height, to, e)
			}
			if to < 0 {
				left(t, r, k, count-1)
				signed(t, r, k, 0, ones())
			} else {
				left(t, r, k, 0)
				shut(t, r, k, 0)
			}
		}
	}
}

// TestP6_1SkipAlone: another tree's numbers stay open, and what is left of them stays.
func TestP6_1SkipAlone(t *testing.T) {
	r := ring.New()
	k, o := added(t, r, rising(), 2), added(t, r, ones(), 2)
	taken(t, r, o, 0, 2)
	if e := r.Skip(k, 3); e != api.OK {
		t.Fatal(e)
	}
	left(t, r, k, 1)
	left(t, r, o, 2)
	signed(t, r, o, 1, ones())
	signed(t, r, o, 0, ones())
}

func TestP6_1Retire(t *testing.T) {
	for height := range heights {
		r := ring.New()
		k, o := added(t, r, rising(), height), added(t, r, ones(), 2)
		taken(t, r, k, 0, 1)
		taken(t, r, o, 0, 3)
		if e := r.Retire(k); e != api.OK {
			t.Fatalf("height %d: error %d", height, e)
		}
		absent(t, r, k)
		left(t, r, o, 1)
		signed(t, r, o, 2, ones())
		if !slices.Equal(r.Keys(), []api.Key{o}) {
			t.Errorf("height %d: the keys %x", height, r.Keys())
		}
	}
}

// TestP6_1Anew: a tree that comes again begins anew: nothing of it is open, and all of it is left.
func TestP6_1Anew(t *testing.T) {
	for height := range heights {
		r := ring.New()
		k, count := added(t, r, rising(), height), 1<<height
		for range 3 {
			taken(t, r, k, 0, count)
			signed(t, r, k, 0, ones())
			if r.Retire(k) != api.OK || added(t, r, rising(), height) != k {
				t.Fatalf("height %d: the tree doesn't come again", height)
			}
			left(t, r, k, count)
			for n := range count {
				shut(t, r, k, n)
			}
			taken(t, r, k, 0, 1)
			signed(t, r, k, 0, ones())
			if r.Skip(k, count) != api.OK || r.Retire(k) != api.OK || added(t, r, rising(), height) != k {
				t.Fatalf("height %d: the tree doesn't come again", height)
			}
		}
	}
}

// absent: that nothing is done by a key, and nothing left of it.
func absent(t *testing.T, r *ring.Ring, k api.Key) {
	t.Helper()
	for _, n := range append(odd(), 0, 1, 2, 63) {
		if s, e := r.Sign(k, n, ones()); e != api.ErrNone || !zero(s) {
			t.Errorf("Sign %d: leaf %d, error %d", n, s.Leaf, e)
		}
		if e := r.Skip(k, n); e != api.ErrNone {
			t.Errorf("Skip to %d: error %d", n, e)
		}
	}
	if n, e := r.Take(k); n != 0 || e != api.ErrNone {
		t.Errorf("Take: number %d, error %d", n, e)
	}
	left(t, r, k, 0)
	if e := r.Retire(k); e != api.ErrNone {
		t.Errorf("Retire: error %d", e)
	}
}

// TestP6_1NoSuchKey: neither another root's tree is there, nor one of that root and another height.
func TestP6_1NoSuchKey(t *testing.T) {
	absent(t, ring.New(), api.Key{})
	r := ring.New()
	k, o := added(t, r, rising(), 2), added(t, r, ones(), 3)
	taken(t, r, k, 0, 1)
	absent(t, r, api.Key{})
	absent(t, r, api.Key{Root: k.Root, Height: o.Height})
	for _, height := range append(odd(), 0, 1, 3, 4, 5, 6, 7) {
		absent(t, r, api.Key{Root: k.Root, Height: height})
	}
	for bit := range 256 {
		other := k
		other.Root[bit/8] ^= 1 << (bit % 8)
		absent(t, r, other)
	}
	left(t, r, k, 3)
	left(t, r, o, 8)
	signed(t, r, k, 0, ones())
	if len(r.Keys()) != 2 {
		t.Errorf("%d trees", len(r.Keys()))
	}
}

// TestP6_1Nil: a nil ring answers so ahead of all else that is wrong.
func TestP6_1Nil(t *testing.T) {
	var r *ring.Ring
	for _, n := range append(odd(), 0, 1, 6, 7) {
		if k, e := r.Add(rising(), n); e != api.ErrNil || k != (api.Key{}) {
			t.Errorf("Add of the height %d: %x, error %d", n, k, e)
		}
	}
	x, _ := keys.New(rising(), 2)
	for _, k := range []api.Key{{}, x.Key(), {Root: ones(), Height: 7}} {
		for _, n := range append(odd(), 0, 1) {
			if s, e := r.Sign(k, n, ones()); e != api.ErrNil || !zero(s) {
				t.Errorf("Sign %d: leaf %d, error %d", n, s.Leaf, e)
			}
			if e := r.Skip(k, n); e != api.ErrNil {
				t.Errorf("Skip to %d: error %d", n, e)
			}
		}
		if n, e := r.Take(k); n != 0 || e != api.ErrNil {
			t.Errorf("Take: number %d, error %d", n, e)
		}
		if e := r.Retire(k); e != api.ErrNil {
			t.Errorf("Retire: error %d", e)
		}
		left(t, r, k, 0)
	}
	if all := r.Keys(); len(all) != 0 {
		t.Errorf("the keys %x", all)
	}
}

// TestP6_1Keys: rising roots, whatever the order in which trees come and go, and each time alike.
func TestP6_1Keys(t *testing.T) {
	rnd := rand.New(rand.NewSource(3))
	r := ring.New()
	var all []string // the roots, as texts: these rise as the bytes do
	key := map[string]api.Key{}
	for i := range 40 {
		k := added(t, r, someDigest(rnd), i%3)
		root := hex.EncodeToString(k.Root[:])
		all, key[root] = append(all, root), k
		if i%4 == 3 {
			gone := rnd.Intn(len(all))
			if e := r.Retire(key[all[gone]]); e != api.OK {
				t.Fatal(e)
			}
			all = slices.Delete(all, gone, gone+1)
		}
		slices.Sort(all)
		for range 5 {
			got := r.Keys()
			if len(got) != len(all) {
				t.Fatalf("%d keys, not %d", len(got), len(all))
			}
			for at, root := range all {
				if got[at] != key[root] {
					t.Fatalf("%d keys: at %d %x, not %s", len(got), at, got[at].Root, root)
				}
			}
		}
	}
	if all[0] >= "8" || all[len(all)-1] < "8" {
		t.Error("roots on both sides of 80 are wanted")
	}
}

// TestP6_1ShortOrders: all short orders of calls upon one tree, and what is told of it behind each of them.
func TestP6_1ShortOrders(t *testing.T) {
	seed := api.Seed{Seed: rising(), Height: 1}
	x, _ := keys.New(seed.Seed, seed.Height)
	k, all := x.Key(), []ask{}
	for _, q := range []ask{{kind: askAdd}, {kind: askTake}, {kind: askSign}, {kind: askSign, n: 1}, {kind: askSkip}, {kind: askSkip, n: 1}, {kind: askSkip, n: 2}, {kind: askRetire}} {
		q.seed, q.key, q.digest = seed, k, ones()
		all = append(all, q)
	}
	const length = 4
	orders := 1
	for range length {
		orders *= len(all)
	}
	made := map[api.Seed]*keys.Tree{seed: x}
	for _, first := range [][]ask{{}, {all[0]}, {all[0], all[1]}} {
		for order := range orders {
			p := newPair()
			p.model.made = made
			for _, q := range first {
				p.ask(t, q)
			}
			for rest, i := order, 0; i < length; rest, i = rest/len(all), i+1 {
				p.ask(t, all[rest%len(all)])
			}
		}
	}
}

// TestP6_1AnyOrder: long orders of all calls upon many trees, some of them of one seed, held against the model.
func TestP6_1AnyOrder(t *testing.T) {
	for run := range 20 {
		rnd := rand.New(rand.NewSource(int64(100 + run)))
		p, seed := newPair(), someDigest(rnd)
		seeds := []api.Seed{{Seed: seed}, {Seed: seed, Height: 2}, {Seed: someDigest(rnd), Height: 1}, {Seed: someDigest(rnd), Height: 3}, {Seed: seed, Height: 7}, {Seed: seed, Height: -1}}
		for range 1000 {
			p.ask(t, p.someAsk(rnd, seeds))
		}
	}
}

// TestP6_1Apart: two rings know nothing of one another, though they have the same trees, and be they asked side by side.
func TestP6_1Apart(t *testing.T) {
	one, other := ring.New(), ring.New()
	k := added(t, one, rising(), 2)
	absent(t, other, k)
	added(t, other, rising(), 2)
	taken(t, one, k, 0, 4)
	left(t, other, k, 4)
	shut(t, other, k, 0)
	if e := one.Retire(k); e != api.OK || other.Left(k) != 4 {
		t.Errorf("error %d, %d are left", e, other.Left(k))
	}
	var side sync.WaitGroup
	for n := range 8 {
		side.Go(func() {
			r := ring.New()
			for range 10 {
				k, e := r.Add(rising(), n%4)
				at, f := r.Take(k)
				s, g := r.Sign(k, at, ones())
				if e != api.OK || f != api.OK || g != api.OK || at != 0 || !keys.Check(k, ones(), s) || r.Retire(k) != api.OK {
					t.Errorf("errors %d, %d, %d beside other rings", e, f, g)
				}
			}
		})
	}
	side.Wait()
}

// TestP6_2NoNumberTwice: whatever is asked, the signatures that come out between an Add and a Retire have numbers of their own, and those that were asked for.
func TestP6_2NoNumberTwice(t *testing.T) {
	type number struct {
		key api.Key
		n   int
	}
	signs := 0
	for run := range 20 {
		rnd := rand.New(rand.NewSource(int64(200 + run)))
		p := newPair()
		seeds := []api.Seed{{Seed: someDigest(rnd), Height: 1}, {Seed: someDigest(rnd), Height: 2}, {Seed: someDigest(rnd), Height: 3}}
		out := map[number]int{}
		for range 1000 {
			q := p.someAsk(rnd, seeds)
			a := program(p.ring, q)
			switch {
			case q.kind == askRetire && a.err == api.OK:
				for n := range 1 << q.key.Height {
					delete(out, number{q.key, n})
				}
			case !zero(a.sig):
				if a.sig.Leaf != q.n || out[number{q.key, q.n}] > 0 {
					t.Fatalf("%+v signs by %d, again", q, a.sig.Leaf)
				}
				out[number{q.key, q.n}]++
				signs++
			}
		}
	}
	if signs < 500 {
		t.Errorf("%d signatures: too few to tell anything", signs)
	}
}

// TestP6_2NothingOpensAgain: a used number stays so, whatever comes between: the same digest, or another one, a Skip back, an Add of the same tree, a Take behind it.
func TestP6_2NothingOpensAgain(t *testing.T) {
	for height := range heights {
		r := ring.New()
		k, count := added(t, r, rising(), height), 1<<height
		for n := range count {
			taken(t, r, k, n, 1)
			signed(t, r, k, n, ones())
			if _, e := r.Sign(k, n, rising()); e != api.ErrOther {
				t.Fatalf("number %d of height %d signs another digest: error %d", n, height, e)
			}
			for _, to := range []int{-1, 0, n, n + 1} {
				if e := r.Skip(k, to); e != api.OK {
					t.Fatal(e)
				}
				shut(t, r, k, n)
			}
			_, _ = r.Add(rising(), height)
			shut(t, r, k, n)
		}
		_, _ = r.Take(k)
		for n := -2; n < count+2; n++ {
			shut(t, r, k, n)
		}
	}
}

// TestP6_2SkippedNumbers: a number that was skipped is never answered by Take, nor signed with.
func TestP6_2SkippedNumbers(t *testing.T) {
	for to := range 9 {
		r := ring.New()
		k := added(t, r, rising(), 3)
		taken(t, r, k, 0, 3)
		for _, n := range []int{to, 0, to - 1, to} {
			if e := r.Skip(k, n); e != api.OK {
				t.Fatal(e)
			}
		}
		for n := range to {
			shut(t, r, k, n)
		}
		from := max(3, to)
		taken(t, r, k, from, 8-from)
		for n := range to {
			shut(t, r, k, n)
		}
	}
}

// filled writes over all of some lists, spare room included.
func filled[T any](with T, all ...[]T) {
	for _, list := range all {
		list = list[:cap(list)]
		for i := range list {
			list[i] = with
		}
	}
}

func TestP6_3SignaturesAreNew(t *testing.T) {
	for height := range heights {
		r := ring.New()
		k, count := added(t, r, rising(), height), 1<<height
		taken(t, r, k, 0, count)
		x, _ := keys.New(rising(), height)
		var all []api.Sig
		for n := range count {
			s := signed(t, r, k, n, ones())
			if all = append(all, clone(s)); n%2 == 0 {
				filled(api.Digest{0xee}, lists(s)...)
			}
		}
		for n, s := range all {
			if wanted, _ := x.Sign(n, ones()); !same(s, wanted) {
				t.Fatalf("number %d of height %d: an answer shares memory", n, height)
			}
		}
		if !slices.Equal(r.Keys(), []api.Key{k}) {
			t.Errorf("height %d: the keys %x", height, r.Keys())
		}
	}
}

// TestP6_3ListsApart: no list of a signature reaches into another one's memory.
func TestP6_3ListsApart(t *testing.T) {
	r := ring.New()
	k := added(t, r, rising(), 3)
	taken(t, r, k, 0, 8)
	for which := range 3 {
		s := signed(t, r, k, which, ones())
		before := clone(s)
		filled(api.Digest{0xaa}, lists(s)[which])
		for other, list := range lists(s) {
			if other != which && !slices.Equal(list, lists(before)[other]) {
				t.Errorf("list %d reaches into list %d", which, other)
			}
		}
	}
}

// TestP6_3KeysAreNew: an answer stays as it was, and what is written into it isn't seen.
func TestP6_3KeysAreNew(t *testing.T) {
	r := ring.New()
	for n := range 5 {
		added(t, r, api.Digest{byte(n)}, n%3)
	}
	first, second := r.Keys(), r.Keys()
	wanted := slices.Clone(first)
	filled(api.Key{Root: ones(), Height: 9}, second)
	if !slices.Equal(first, wanted) || !slices.Equal(r.Keys(), wanted) {
		t.Fatal("two answers share memory, or one with the ring")
	}
	if r.Retire(wanted[0]) != api.OK || r.Left(wanted[1]) != 1<<wanted[1].Height {
		t.Fatal("a tree isn't there any more")
	}
	added(t, r, ones(), 1)
	if r.Keys(); !slices.Equal(first, wanted) {
		t.Error("an answer is changed behind the call")
	}
}

// TestP6_3NothingIsKept: what becomes of a seed, a key or a digest behind a call isn't seen, and no call changes them.
func TestP6_3NothingIsKept(t *testing.T) {
	r, seed, d := ring.New(), rising(), ones()
	k := added(t, r, seed, 2)
	if seed != rising() {
		t.Error("the seed is changed")
	}
	seed[0]++
	was := k
	taken(t, r, k, 0, 2)
	s := signed(t, r, k, 1, d)
	if r.Skip(k, 1) != api.OK || k != was || d != ones() {
		t.Error("a key or a digest is changed")
	}
	d[0]++
	k.Root[0]++
	k.Height++
	x, _ := keys.New(rising(), 2)
	if wanted, _ := x.Sign(1, ones()); !same(s, wanted) {
		t.Error("a digest is kept")
	}
	absent(t, r, k)
	left(t, r, was, 2)
	if !slices.Equal(r.Keys(), []api.Key{was}) {
		t.Errorf("the keys %x", r.Keys())
	}
}
