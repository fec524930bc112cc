package once_test

import (
	"crypto/sha256"
	"encoding/hex"
	"math"
	"math/rand"
	"slices"
	"sync"
	"testing"

	"wapentake/api"
	"wapentake/once"
)

const (
	all    = 32 // digests of each of a signature's lists, one for each signed bit
	bits   = 256
	signed = 32
)

func expect(t *testing.T, what string, got api.Digest, wanted string) {
	t.Helper()
	if hex.EncodeToString(got[:]) != wanted {
		t.Errorf("%s: %x, not %s", what, got, wanted)
	}
}

func same(a, b api.Once) bool {
	return slices.Equal(a.Open, b.Open) && slices.Equal(a.Shut, b.Shut)
}

func clone(o api.Once) api.Once {
	return api.Once{Open: slices.Clone(o.Open), Shut: slices.Clone(o.Shut)}
}

// rising: the digest of the bytes 0, 1, 2 ..
func rising() api.Digest {
	var d api.Digest
	for i := range d {
		d[i] = byte(i)
	}
	return d
}

func ones() api.Digest {
	var d api.Digest
	for i := range d {
		d[i] = 0xff
	}
	return d
}

// leaves: numbers of leaves, also such as no key tree has.
func leaves() []int {
	return []int{0, 1, 2, 63, 64, 255, 256, 258, 1 << 32, 1<<32 + 1, math.MaxInt, -1, -2, -1 << 32, math.MinInt}
}

// TestP4_1Known: public halves that another program than Go's made of the document's words.
func TestP4_1Known(t *testing.T) {
	for _, c := range []struct {
		seed   api.Digest
		leaf   int
		wanted string
	}{
		{api.Digest{}, 0, "89b59b2e786ceba7ca899934085021b11810610dcf217de9aabb25fea10597ea"},
		{api.Digest{}, 1, "9bc80fa9c12db330cffe289ecdf0c9f8538411c24712028ba38fb6b7dc6f4325"},
		{api.Digest{}, -1, "2578225e1ef121ce3932962e8f359a6c5901f7027972f2b7098d4a93bb404bcc"},
		{rising(), 0, "9be45152511291d90ad4a48dede538ac46255b15ce18c85f9d25b875ba38b95e"},
		{rising(), 7, "678d1a2b843ec2a30d3b839ad0d4dcd4a2764a81ec66f65848d456c1fd9db120"},
		{rising(), 63, "a403ea21171e6c5ebb3bf9c665e487ddd364c86380106527baf0a0ad34212308"},
		{rising(), 1 << 32, "bb2c393b9133ef1eb2515e8a873269f045e4d05c0935788025ed131fdc51339c"},
		{rising(), math.MaxInt, "9b26ddeb954605f84c70210aff79089788663e276b2fcd1b289a6ee7dbb6158d"},
		{rising(), math.MinInt, "29cf58335a5e141e2a985bdbe8dcc9bc2864a7ff3d87860b4da7b20495d092cd"},
		{ones(), 5, "ad778508e8272c5616338435779e92f9e9a6ad360a42927aa87f21b14ac05706"},
	} {
		expect(t, "a public half", once.Public(c.seed, c.leaf), c.wanted)
	}
}

// TestP4_1KnownSignature: of the digest of abc, whose first bit is 1 and whose 32nd is 1, by the seed of rising bytes and leaf 7; likewise made by another program.
func TestP4_1KnownSignature(t *testing.T) {
	o := once.Sign(rising(), 7, sha256.Sum256([]byte("abc")))
	if len(o.Open) != all || len(o.Shut) != all {
		t.Fatal(len(o.Open), len(o.Shut))
	}
	expect(t, "the first secret", o.Open[0], "596cfe49ae1bb98b686b20ff9876cff8df0b76f6c19b8565e53f6f260b5a4bb6")
	expect(t, "the first digest", o.Shut[0], "380925e09e8885473be5c14dbd458ba8f6c33ebf26988b106e983592345a4fe4")
	expect(t, "the last secret", o.Open[31], "1012f43356f3b0801bf78bcf774fc223baa1a10db8e1fdcea306c2e19ce75cd5")
	expect(t, "the last digest", o.Shut[31], "46bdbef4ab0d30b0b3168692571521e964717d215aa633641b5f4e6fb4e06dea")
	var open, other []byte
	for i := range all {
		open, other = append(open, o.Open[i][:]...), append(other, o.Shut[i][:]...)
	}
	expect(t, "all secrets", sha256.Sum256(open), "e339942987f1ea6a4ce845a845d4f8d2e1f2f6f5fadf1b9b89022a49f9ed6f5b")
	expect(t, "all digests", sha256.Sum256(other), "3dd8835cf8638c762b0966085cda6887515450253a38339ec1713368d627d136")
}

func TestP4_1Public(t *testing.T) {
	rnd := rand.New(rand.NewSource(1))
	for _, leaf := range leaves() {
		for _, seed := range []api.Digest{{}, ones(), rising(), someDigest(rnd)} {
			if got, wanted := once.Public(seed, leaf), modelPublic(seed, leaf); got != wanted {
				t.Errorf("seed %x, leaf %d: %x, not %x", seed, leaf, got, wanted)
			}
		}
	}
}

func TestP4_1Sign(t *testing.T) {
	rnd := rand.New(rand.NewSource(2))
	for _, leaf := range leaves() {
		seed := someDigest(rnd)
		for _, d := range append(someDigests(rnd, 4), api.Digest{}, ones(), rising(), seed) {
			if got, wanted := once.Sign(seed, leaf, d), modelSign(seed, leaf, d); !same(got, wanted) {
				t.Errorf("seed %x, leaf %d, digest %x: %x, not %x", seed, leaf, d, got, wanted)
			}
		}
	}
}

// TestP4_1BitOrder: a digest of one bit opens that bit's other secret alone.
func TestP4_1BitOrder(t *testing.T) {
	seed := rising()
	none, secrets := once.Sign(seed, 3, api.Digest{}), modelSecrets(seed, 3)
	for bit := range bits {
		o := once.Sign(seed, 3, turned(api.Digest{}, bit))
		for i := range all {
			open, other := secrets[2*i], secrets[2*i+1]
			if i == bit {
				open, other = other, open
			}
			if o.Open[i] != open || o.Shut[i] != sha256.Sum256(other[:]) {
				t.Fatalf("bit %d: the digests at %d", bit, i)
			}
		}
		if same(o, none) != (bit >= signed) {
			t.Errorf("bit %d: whether it is signed", bit)
		}
	}
}

// TestP4_1Of: of any digests, be they a signature or not, the public half is answered that they make.
func TestP4_1Of(t *testing.T) {
	rnd := rand.New(rand.NewSource(3))
	for range 300 {
		o := api.Once{Open: someDigests(rnd, all), Shut: someDigests(rnd, all)}
		if rnd.Intn(4) == 0 {
			clear(o.Open)
		}
		if rnd.Intn(4) == 0 {
			clear(o.Shut)
		}
		for _, d := range []api.Digest{{}, ones(), someDigest(rnd)} {
			got, ok := once.Of(d, o)
			wanted := modelOf(d, o)
			if !ok || got != wanted {
				t.Fatalf("digest %x: %x, %v, not %x", d, got, ok, wanted)
			}
			if !once.Check(wanted, d, o) || once.Check(someDigest(rnd), d, o) || once.Check(api.Digest{}, d, o) {
				t.Fatalf("digest %x: Check isn't as Of", d)
			}
		}
	}
}

// TestP4_1OfEachBit: only the first 32 bits tell which of the two is ahead.
func TestP4_1OfEachBit(t *testing.T) {
	rnd := rand.New(rand.NewSource(4))
	o := api.Once{Open: someDigests(rnd, all), Shut: someDigests(rnd, all)}
	none, _ := once.Of(api.Digest{}, o)
	for bit := range bits {
		d := turned(api.Digest{}, bit)
		got, ok := once.Of(d, o)
		if !ok || got != modelOf(d, o) || (got == none) != (bit >= signed) {
			t.Errorf("bit %d: %x, %v", bit, got, ok)
		}
	}
}

// TestP4_1Sizes: lists of other sizes are no signature, not even under noughts, which Of answers then.
func TestP4_1Sizes(t *testing.T) {
	rnd := rand.New(rand.NewSource(5))
	sizes := []int{0, 1, 31, 32, 33, 63, 64, 65, 1000}
	for _, n := range sizes {
		for _, m := range sizes {
			o := api.Once{Open: someDigests(rnd, n), Shut: someDigests(rnd, m)}
			for _, d := range []api.Digest{{}, ones(), rising()} {
				got, ok := once.Of(d, o)
				if good := n == all && m == all; ok != good || (got != api.Digest{}) != good || once.Check(got, d, o) != good || once.Check(api.Digest{}, d, o) {
					t.Errorf("%d and %d digests: %x, %v", n, m, got, ok)
				}
			}
		}
	}
	for _, o := range []api.Once{{}, {Open: []api.Digest{}, Shut: []api.Digest{}}, {Open: make([]api.Digest, all)}, {Shut: make([]api.Digest, all)}} {
		if got, ok := once.Of(api.Digest{}, o); ok || got != (api.Digest{}) || once.Check(api.Digest{}, api.Digest{}, o) {
			t.Errorf("a list that isn't there: %x, %v", got, ok)
		}
	}
}

// TestP4_1CutSignatures: a right signature that is cut, or goes on, is none.
func TestP4_1CutSignatures(t *testing.T) {
	seed, d := rising(), ones()
	p, o := once.Public(seed, 0), once.Sign(seed, 0, d)
	for i, other := range []api.Once{
		{Open: o.Open[:31], Shut: o.Shut},
		{Open: o.Open, Shut: o.Shut[:31]},
		{Open: o.Open[:31], Shut: o.Shut[:31]},
		{Open: o.Open[1:], Shut: o.Shut[1:]},
		{Open: append(slices.Clone(o.Open), api.Digest{}), Shut: o.Shut},
		{Open: o.Open, Shut: append(slices.Clone(o.Shut), api.Digest{})},
		{Open: slices.Concat(o.Open, o.Open), Shut: slices.Concat(o.Shut, o.Shut)},
	} {
		if q, ok := once.Of(d, other); ok || q != (api.Digest{}) || once.Check(p, d, other) {
			t.Errorf("way %d: %x, %v", i, q, ok)
		}
	}
}

// TestP4_1NothingIsKeptBetweenCalls: an answer hangs on no other call, ahead of it or at its side.
func TestP4_1NothingIsKeptBetweenCalls(t *testing.T) {
	var side sync.WaitGroup
	for n := range 8 {
		side.Go(func() {
			rnd := rand.New(rand.NewSource(int64(n)))
			for range 20 {
				seed, leaf, d := someDigest(rnd), rnd.Intn(64), someDigest(rnd)
				p, o := once.Public(seed, leaf), once.Sign(seed, leaf, d)
				if p != modelPublic(seed, leaf) || !same(o, modelSign(seed, leaf, d)) || !once.Check(p, d, o) {
					t.Errorf("leaf %d beside other calls", leaf)
				}
			}
		})
	}
	side.Wait()
}

func TestP4_2EachSignatureChecks(t *testing.T) {
	rnd := rand.New(rand.NewSource(6))
	for _, leaf := range leaves() {
		seed := someDigest(rnd)
		p := once.Public(seed, leaf)
		for _, d := range append(someDigests(rnd, 6), api.Digest{}, ones(), rising()) {
			o := once.Sign(seed, leaf, d)
			if q, ok := once.Of(d, o); !ok || q != p || !once.Check(p, d, o) {
				t.Errorf("leaf %d, digest %x: %x, %v, not %x", leaf, d, q, ok, p)
			}
		}
	}
}

// TestP4_2FirstBits: of a digest that is turned anywhere else than in its first 32 bits the signature is right, and of no other.
func TestP4_2FirstBits(t *testing.T) {
	rnd := rand.New(rand.NewSource(7))
	for _, d := range []api.Digest{{}, ones(), someDigest(rnd)} {
		seed := someDigest(rnd)
		p, o := once.Public(seed, 9), once.Sign(seed, 9, d)
		for bit := range bits {
			other := turned(d, bit)
			if once.Check(p, other, o) != (bit >= signed) || same(once.Sign(seed, 9, other), o) != (bit >= signed) {
				t.Errorf("digest %x, bit %d", d, bit)
			}
		}
		behind := someDigest(rnd)
		copy(behind[:4], d[:4])
		if !once.Check(p, behind, o) {
			t.Errorf("digest %x: another one behind the first bits", d)
		}
		for range 200 {
			other := d
			rnd.Read(other[:4])
			if [4]byte(other[:4]) != [4]byte(d[:4]) && once.Check(p, other, o) {
				t.Errorf("digest %x: by its signature %x checks", d, other)
			}
		}
	}
}

// TestP4_2OtherKeys: a signature is right under no other leaf's public half, nor another seed's.
func TestP4_2OtherKeys(t *testing.T) {
	rnd := rand.New(rand.NewSource(8))
	seed, d := someDigest(rnd), someDigest(rnd)
	var publics []api.Digest
	for _, leaf := range leaves() {
		publics = append(publics, once.Public(seed, leaf))
	}
	for i, leaf := range leaves() {
		o := once.Sign(seed, leaf, d)
		for j, p := range publics {
			if once.Check(p, d, o) != (i == j) {
				t.Errorf("leaf %d under the public half of %d", leaf, leaves()[j])
			}
		}
	}
	o := once.Sign(seed, 0, d)
	for bit := range bits {
		if once.Check(once.Public(turned(seed, bit), 0), d, o) {
			t.Errorf("another seed, at bit %d", bit)
		}
	}
}

// TestP4_2TurnedSignatures: whichever digest of a signature, or bit of the public half, is turned, nothing checks.
func TestP4_2TurnedSignatures(t *testing.T) {
	rnd := rand.New(rand.NewSource(9))
	seed, d := someDigest(rnd), someDigest(rnd)
	p, o := once.Public(seed, 1), once.Sign(seed, 1, d)
	for bit := range bits {
		if once.Check(turned(p, bit), d, o) {
			t.Errorf("the public half turned at bit %d", bit)
		}
		for _, list := range [][]api.Digest{o.Open, o.Shut} {
			at := rnd.Intn(all)
			for i := range 2 {
				place := (at + i*all/2) % all
				was := list[place]
				list[place] = turned(was, bit)
				if once.Check(p, d, o) {
					t.Errorf("a digest at %d turned at bit %d", place, bit)
				}
				list[place] = was
			}
		}
	}
	for i := range all {
		for _, list := range [][]api.Digest{o.Open, o.Shut} {
			was := list[i]
			list[i] = api.Digest{}
			if once.Check(p, d, o) {
				t.Errorf("noughts at %d", i)
			}
			list[i] = was
		}
	}
	if !once.Check(p, d, o) {
		t.Error("the signature doesn't check as it was")
	}
}

// TestP4_2MixedSignatures: nothing of a signature does at another place.
func TestP4_2MixedSignatures(t *testing.T) {
	rnd := rand.New(rand.NewSource(10))
	seed, d := someDigest(rnd), someDigest(rnd)
	p, o := once.Public(seed, 2), once.Sign(seed, 2, d)
	if once.Check(p, d, api.Once{Open: o.Shut, Shut: o.Open}) {
		t.Error("open and shut changed about")
	}
	for i := range all - 1 {
		other := clone(o)
		other.Open[i], other.Open[i+1] = other.Open[i+1], other.Open[i]
		if once.Check(p, d, other) {
			t.Errorf("Open at %d changed about", i)
		}
		other = clone(o)
		other.Shut[i], other.Shut[i+1] = other.Shut[i+1], other.Shut[i]
		if once.Check(p, d, other) {
			t.Errorf("Shut at %d changed about", i)
		}
		other = clone(o)
		other.Open[i], other.Shut[i] = other.Shut[i], other.Open[i]
		if once.Check(p, turned(d, i), other) || once.Check(p, d, other) {
			t.Errorf("a digest opened as if it were a secret, at %d", i)
		}
	}
}

// TestP4_2SecretsApart: no secret of a seed is one at another place, so that none tells another one.
func TestP4_2SecretsApart(t *testing.T) {
	seed, seen := rising(), map[api.Digest]bool{}
	for leaf := range 16 {
		for _, d := range []api.Digest{{}, ones()} {
			for _, secret := range once.Sign(seed, leaf, d).Open {
				if seen[secret] {
					t.Fatalf("leaf %d: a secret that another place has", leaf)
				}
				seen[secret] = true
			}
		}
	}
}

// roomy: some digests with room to spare, and the whole memory behind them, filled.
func roomy(rnd *rand.Rand, list []api.Digest) (roomy, whole []api.Digest) {
	whole = slices.Concat(list, someDigests(rnd, 20))
	return whole[:len(list)], whole
}

func TestP4_3SignaturesAreUnchanged(t *testing.T) {
	rnd := rand.New(rand.NewSource(11))
	seed, d := someDigest(rnd), someDigest(rnd)
	p, whole := once.Public(seed, 0), once.Sign(seed, 0, d)
	for _, n := range []int{0, 1, 31, 32} {
		open, openAll := roomy(rnd, whole.Open[:n])
		shut, shutAll := roomy(rnd, whole.Shut[:n])
		openBefore, shutBefore := slices.Clone(openAll), slices.Clone(shutAll)
		for bit := range signed {
			o := api.Once{Open: open, Shut: shut}
			_, ok := once.Of(turned(d, bit), o)
			if ok != (n == all) || once.Check(p, d, o) != (n == all) {
				t.Fatalf("%d digests: %v", n, ok)
			}
		}
		if !slices.Equal(openAll, openBefore) || !slices.Equal(shutAll, shutBefore) {
			t.Errorf("%d digests are changed, or the room behind them", n)
		}
	}
}

func TestP4_3SignaturesAreNotKept(t *testing.T) {
	rnd := rand.New(rand.NewSource(12))
	seed, d := someDigest(rnd), someDigest(rnd)
	p, o := once.Public(seed, 0), once.Sign(seed, 0, d)
	for i := range all {
		if !once.Check(p, d, o) {
			t.Fatal("a right signature doesn't check")
		}
		was := o.Open[i]
		o.Open[i] = someDigest(rnd)
		if q, ok := once.Of(d, o); !ok || q != modelOf(d, o) || once.Check(p, d, o) {
			t.Errorf("what is written at %d behind a call isn't seen by the next one", i)
		}
		o.Open[i] = was
	}
}

func TestP4_3SignaturesAreNew(t *testing.T) {
	rnd := rand.New(rand.NewSource(13))
	seed, d := someDigest(rnd), someDigest(rnd)
	first, second := once.Sign(seed, 0, d), once.Sign(seed, 0, d)
	wanted := clone(first)
	for _, list := range [][]api.Digest{second.Open, second.Shut} {
		for i := range list[:cap(list)] {
			list[:cap(list)][i] = api.Digest{0xee}
		}
	}
	if !same(first, wanted) || !same(once.Sign(seed, 0, d), wanted) {
		t.Error("two answers share memory")
	}
	open := first.Open[:cap(first.Open)]
	for i := range open {
		open[i] = api.Digest{0xdd}
	}
	if !slices.Equal(first.Shut, wanted.Shut) {
		t.Error("an answer's two lists share memory")
	}
	shut := first.Shut[:cap(first.Shut)]
	for i := range shut {
		shut[i] = api.Digest{0xcc}
	}
	for i := range open {
		if open[i] != (api.Digest{0xdd}) {
			t.Fatal("an answer's two lists share memory")
		}
	}
}

func TestP4_3DigestsKeepNothing(t *testing.T) {
	rnd := rand.New(rand.NewSource(14))
	seed, d := someDigest(rnd), someDigest(rnd)
	seedWas, dWas := seed, d
	p, o := once.Public(seed, 4), once.Sign(seed, 4, d)
	once.Of(d, o)
	once.Check(p, d, o)
	if seed != seedWas || d != dWas || p != modelPublic(seed, 4) {
		t.Error("digests are changed")
	}
	before := clone(o)
	seed[0], d[0] = seed[0]^1, d[0]^1
	if !same(o, before) || same(once.Sign(seed, 4, d), before) || once.Public(seed, 4) == p || once.Public(seedWas, 4) != p {
		t.Error("digests are kept")
	}
}
