package ring_test

import (
	"bytes"
	"math"
	"math/rand"
	"slices"
	"testing"

	"wapentake/api"
	"wapentake/keys"
	"wapentake/ring"
)

// The model tells the document's ring another way: it has each number's fate, of which the next one is the first that is fresh, and takes keys and signatures from layer 5.

const (
	fresh = iota // not taken
	open         // taken, and not used
	gone         // used, or skipped
)

type modelTree struct {
	tree *keys.Tree
	fate []int
}

func (m *modelTree) next() int {
	if n := slices.Index(m.fate, fresh); n >= 0 {
		return n
	}
	return len(m.fate)
}

// modelRing has the trees in the order in which they came, and all trees of layer 5 that it ever made, since they take long.
type modelRing struct {
	trees []*modelTree
	made  map[api.Seed]*keys.Tree
}

func (m *modelRing) find(k api.Key) *modelTree {
	for _, t := range m.trees {
		if t.tree.Key() == k {
			return t
		}
	}
	return nil
}

func (m *modelRing) layer5(s api.Seed) (*keys.Tree, api.Errno) {
	if x := m.made[s]; x != nil {
		return x, api.OK
	}
	x, e := keys.New(s.Seed, s.Height)
	if e == api.OK {
		m.made[s] = x
	}
	return x, e
}

// ask is one call, of any kind.
type ask struct {
	kind   int
	seed   api.Seed // of Add
	key    api.Key  // of all others
	n      int      // of Sign and Skip
	digest api.Digest
}

const (
	askAdd = iota
	askTake
	askSign
	askSkip
	askLeft
	askRetire
	askKeys
)

// often: how often each kind is asked; were Skip or Retire more, few numbers would live to sign.
var often = []int{askAdd, askAdd, askTake, askTake, askTake, askTake, askSign, askSign, askSign, askSign, askSign, askSign, askSign, askSign, askSkip, askLeft, askRetire, askKeys}

// answer is all that any call answers.
type answer struct {
	key  api.Key
	n    int
	sig  api.Sig
	keys []api.Key
	err  api.Errno
}

func alike(a, b answer) bool {
	return a.key == b.key && a.n == b.n && same(a.sig, b.sig) && slices.Equal(a.keys, b.keys) && a.err == b.err
}

func program(r *ring.Ring, q ask) answer {
	var a answer
	switch q.kind {
	case askAdd:
		a.key, a.err = r.Add(q.seed.Seed, q.seed.Height)
	case askTake:
		a.n, a.err = r.Take(q.key)
	case askSign:
		a.sig, a.err = r.Sign(q.key, q.n, q.digest)
	case askSkip:
		a.err = r.Skip(q.key, q.n)
	case askLeft:
		a.n = r.Left(q.key)
	case askRetire:
		a.err = r.Retire(q.key)
	case askKeys:
		a.keys = r.Keys()
	}
	return a
}

func (m *modelRing) answer(q ask) answer {
	switch q.kind {
	case askAdd:
		return m.add(q.seed)
	case askKeys:
		return answer{keys: m.keys()}
	}
	t := m.find(q.key)
	switch {
	case t == nil && q.kind == askLeft:
		return answer{}
	case t == nil:
		return answer{err: api.ErrNone}
	case q.kind == askTake && t.next() == len(t.fate):
		return answer{err: api.ErrSpent}
	case q.kind == askTake:
		n := t.next()
		t.fate[n] = open
		return answer{n: n}
	case q.kind == askSign && (q.n < 0 || q.n >= len(t.fate) || t.fate[q.n] != open):
		return answer{err: api.ErrOther}
	case q.kind == askSign:
		t.fate[q.n] = gone
		s, e := t.tree.Sign(q.n, q.digest)
		return answer{sig: s, err: e}
	case q.kind == askSkip:
		for n := range t.fate {
			if n < q.n {
				t.fate[n] = gone
			}
		}
		return answer{}
	case q.kind == askRetire:
		m.trees = slices.DeleteFunc(m.trees, func(other *modelTree) bool { return other == t })
		return answer{}
	}
	return answer{n: len(t.fate) - t.next()}
}

func (m *modelRing) add(s api.Seed) answer {
	x, e := m.layer5(s)
	if e != api.OK {
		return answer{err: e}
	}
	if m.find(x.Key()) != nil {
		return answer{err: api.ErrOther}
	}
	m.trees = append(m.trees, &modelTree{tree: x, fate: make([]int, 1<<s.Height)})
	return answer{key: x.Key()}
}

func (m *modelRing) keys() []api.Key {
	var all []api.Key
	for _, t := range m.trees {
		k := t.tree.Key()
		at := slices.IndexFunc(all, func(other api.Key) bool { return bytes.Compare(k.Root[:], other.Root[:]) < 0 })
		if at < 0 {
			at = len(all)
		}
		all = slices.Insert(all, at, k)
	}
	return all
}

// pair is a ring and its model, which are asked the same.
type pair struct {
	ring  *ring.Ring
	model *modelRing
}

func newPair() pair {
	return pair{ring.New(), &modelRing{made: map[api.Seed]*keys.Tree{}}}
}

// ask asks both, and then both for all that is told of each tree; it answers the program's answer.
func (p pair) ask(t *testing.T, q ask) answer {
	t.Helper()
	got, wanted := program(p.ring, q), p.model.answer(q)
	if !alike(got, wanted) {
		t.Fatalf("%+v: key %x, number %d, error %d, leaf %d, not key %x, number %d, error %d, leaf %d", q, got.key, got.n, got.err, got.sig.Leaf, wanted.key, wanted.n, wanted.err, wanted.sig.Leaf)
	}
	if all := p.ring.Keys(); !slices.Equal(all, p.model.keys()) {
		t.Fatalf("behind %+v: the keys %x", q, all)
	}
	for _, m := range p.model.trees {
		if left := p.ring.Left(m.tree.Key()); left != len(m.fate)-m.next() {
			t.Fatalf("behind %+v: %d numbers are left of %v", q, left, m.fate)
		}
	}
	return got
}

// someAsk: of some seeds, of their trees' keys, and of keys that no ring has.
func (p pair) someAsk(rnd *rand.Rand, seeds []api.Seed) ask {
	s := seeds[rnd.Intn(len(seeds))]
	q := ask{kind: often[rnd.Intn(len(often))], seed: s, digest: someDigest(rnd)}
	x, e := p.model.layer5(s)
	if e == api.OK {
		q.key = x.Key()
	}
	switch rnd.Intn(12) {
	case 0:
		q.key.Height += 1 - 2*rnd.Intn(2)
	case 1:
		q.key.Root[rnd.Intn(32)] ^= 1
	}
	count := 1
	if e == api.OK {
		count = 1 << s.Height
	}
	q.n = rnd.Intn(count+4) - 2
	if rnd.Intn(20) == 0 {
		q.n = odd()[rnd.Intn(len(odd()))]
	}
	return q
}

func same(a, b api.Sig) bool {
	return a.Leaf == b.Leaf && slices.Equal(a.Once.Open, b.Once.Open) && slices.Equal(a.Once.Shut, b.Once.Shut) && slices.Equal(a.Path, b.Path)
}

// zero: whether it is the zero signature; an empty list may be nil or empty.
func zero(s api.Sig) bool {
	return s.Leaf == 0 && len(s.Once.Open) == 0 && len(s.Once.Shut) == 0 && len(s.Path) == 0
}

func lists(s api.Sig) [][]api.Digest { return [][]api.Digest{s.Once.Open, s.Once.Shut, s.Path} }

func clone(s api.Sig) api.Sig {
	s.Once.Open, s.Once.Shut, s.Path = slices.Clone(s.Once.Open), slices.Clone(s.Once.Shut), slices.Clone(s.Path)
	return s
}

func someDigest(rnd *rand.Rand) api.Digest {
	var d api.Digest
	rnd.Read(d[:])
	return d
}

func rising() api.Digest {
	var d api.Digest
	for i := range d {
		d[i] = byte(i)
	}
	return d
}

func ones() api.Digest { return api.Digest(bytes.Repeat([]byte{255}, 32)) }

// odd: numbers that no tree has.
func odd() []int {
	return []int{-1, -2, -63, -64, -65, 64, 65, 127, 1 << 31, 1 << 32, 1<<32 + 1, -1 << 32, math.MaxInt32, math.MinInt32, math.MaxInt - 1, math.MaxInt, math.MinInt, math.MinInt + 1}
}
