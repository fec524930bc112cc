package keys_test

import (
	"bytes"
	"crypto/sha256"
	"encoding/hex"
	"math"
	"math/rand"
	"slices"
	"sync"
	"testing"

	"wapentake/api"
	"wapentake/code"
	"wapentake/keys"
)

const (
	signed  = 32 // digests of each of a one-time signature's lists, one for each signed bit
	bits    = 256
	heights = api.MaxHeight + 1 // how many there are, from 0 on
)

func expect(t *testing.T, what string, got api.Digest, wanted string) {
	t.Helper()
	if hex.EncodeToString(got[:]) != wanted {
		t.Errorf("%s: %x, not %s", what, got, wanted)
	}
}

func same(a, b api.Sig) bool {
	return a.Leaf == b.Leaf && slices.Equal(a.Once.Open, b.Once.Open) && slices.Equal(a.Once.Shut, b.Once.Shut) && slices.Equal(a.Path, b.Path)
}

func clone(s api.Sig) api.Sig {
	s.Once.Open, s.Once.Shut, s.Path = slices.Clone(s.Once.Open), slices.Clone(s.Once.Shut), slices.Clone(s.Path)
	return s
}

// zero: whether it is the zero signature; an empty list may be nil or empty.
func zero(s api.Sig) bool {
	return s.Leaf == 0 && len(s.Once.Open) == 0 && len(s.Once.Shut) == 0 && len(s.Path) == 0
}

func lists(s api.Sig) [][]api.Digest { return [][]api.Digest{s.Once.Open, s.Once.Shut, s.Path} }

func digestOf(list []api.Digest) api.Digest {
	var b []byte
	for _, d := range list {
		b = append(b, d[:]...)
	}
	return sha256.Sum256(b)
}

// grown: a tree, which must be one.
func grown(t *testing.T, seed api.Digest, height int) *keys.Tree {
	t.Helper()
	x, e := keys.New(seed, height)
	if e != api.OK || x == nil {
		t.Fatalf("no tree of the height %d: %d", height, e)
	}
	return x
}

// made: a tree's signature, which must be one.
func made(t *testing.T, x *keys.Tree, n int, d api.Digest) api.Sig {
	t.Helper()
	s, e := x.Sign(n, d)
	if e != api.OK {
		t.Fatalf("the key %d doesn't sign: %d", n, e)
	}
	return s
}

func written(t *testing.T, s api.Sig) []byte {
	t.Helper()
	w := &code.Writer{}
	if !keys.Write(w, s) {
		t.Fatalf("a signature isn't written: leaf %d, a path of %d", s.Leaf, len(s.Path))
	}
	return w.Bytes()
}

// TestP5_1Known: roots that another program than Go's made of the document's words, by rising heights.
func TestP5_1Known(t *testing.T) {
	for _, c := range []struct {
		seed  api.Digest
		roots [heights]string
	}{
		{api.Digest{}, [heights]string{
			"c65519d92921d88872e15c3323dc73060b43d3e54cf3b2a63dd9a9d44513f5d1",
			"ca52b561dad2e7d1533165d7409e4fb388987ea16ac6a2a772e02fd9217be471",
			"0d9e636d4bf1889ec68bcafe26dbcc869c24b33e2d9be5b70082748734c0f6b8",
			"bd3566f5f49d20a70d3ecbcdabb5d444b34701a08bf2436aac56fdd26f423bab",
			"68aa43220e2ea782273fd0850c2ecd957158356724ff8a223e987451e2292731",
			"ff9821b01e3dc82c63ff083a4622fe6a6afa6778c40b8014b55963f340dbf495",
			"fb3201198973f94615bbc13cc4752d80aae187d08b2ecf7edd8699f45c906ed9",
		}},
		{rising(), [heights]string{
			"2d0d0b7e97bb17423f170eb6c6d715a460724d61468391914e0470032e05fa0c",
			"41783ef7050f66dce478d0010bb8f4521662e55b9970f8ec9d898df7ea0f6993",
			"4f99b299b1a0484e1b8b6d27b40e8881787bbdb109faecb18dff2106833e110a",
			"ac5e3695fbad48e2e83c3a6cb8afd4621fe319d25ca934e538a00984be1df2c2",
			"175781af9e7ceec317979b004f82689bb3a24d0d2657682d6629ea8ff7ab9287",
			"b2862181e3e4506644a8f01574faa531bf769c4b7ffbab521a1024eaf35f4603",
			"3c9d2f2acf974ca832e904d97d21782b9aadf7430862b96950bc5ffbe407edb7",
		}},
		{ones(), [heights]string{
			"4914a0e15c9abd2992a1ab87687198caf6ac077ededad564f458375cbe5a128d",
			"142757f0c3da5dcd5c881122fb371d1fb9a643151933a4b79d8a8cfba0b30e72",
			"c54e2d9b6b76957298d7d0e04d3ea97de198014c409354bfb15e46c04ac1f576",
			"6d1119bc4edde9afd07f6815d3279357423df20abb11e35f69fa90f712a67b4e",
			"4a993c865dc07ce62f7dca46200527f103a855fbfb7649db051cdf0097075a67",
			"1a4ab9f5c3a84a0ef785435e6a59a71e2444618aead963f8e37c4f5fb20bf647",
			"aabcea7b7b421623d7ee3903ba4b61f70b32551ae3d3816c98b5aba5d6a2d138",
		}},
	} {
		for height, wanted := range c.roots {
			k := grown(t, c.seed, height).Key()
			expect(t, "a root", k.Root, wanted)
			if k.Height != height {
				t.Errorf("the height %d, not %d", k.Height, height)
			}
		}
	}
}

// TestP5_1KnownSignatures: of the digest of abc, by the seed of rising bytes; likewise made by another program.
func TestP5_1KnownSignatures(t *testing.T) {
	for _, c := range []struct {
		height, n           int
		path                []string
		open, shut, written string
		length              int
	}{
		{0, 0, nil,
			"f74e34a5ddda0406bcd416b3c56f5b62a1b3c8f290c09cd79084000b0ce740be",
			"e683df68c470b826f37c814d0c0a8b9e1697710db5b2b0bead87acb49f0d5794",
			"d078cc3a880e14f2217c3ad72360faf144f708fa755473f601dfc59f5eb4b7a8", 2064},
		{1, 1, []string{
			"2d0d0b7e97bb17423f170eb6c6d715a460724d61468391914e0470032e05fa0c"},
			"9fbed220ea2347d0bbeacda71bf13ba91fbe78dca5617834100579a966a3a9f5",
			"cd87eec487a9214ca40c83836edceb98201ba240b5db53d9603cc6e875d70475",
			"bd0b0823ebdb63498790dbfaa991409a89794af8c151f03fa0f25e9c6dd49131", 2096},
		{3, 5, []string{
			"fbee7d15b8c224bb706b44a0c00e2556ad79df304c01442945d3536b81096353",
			"9f1758047e7d406207291082796c3fd357f4b82e65a11296f50317e0e901cb38",
			"4f99b299b1a0484e1b8b6d27b40e8881787bbdb109faecb18dff2106833e110a"},
			"51eb82d53952972b593dcd62629fa9738a33636437a80a62415db6ad02676137",
			"8f02d73edcd6e33707665b6bf2f857cc788d2a11b21ea41d51636859c3e99e2f",
			"1db9f8b101e86009cce6f7a96d1f90092fe65b9292b4ae0f905acfd8a047936b", 2160},
		{6, 63, []string{
			"9e29ec26f65320bed8e9d80939bc568af8f5b19568c28616a25b130a25d1f517",
			"8d6b82b875dc994dbcb10baf9875cdefb1bf6f6992d8512fba0f49fc6f2f031c",
			"7a88f9614f611ce22f3d7d21fc29dbfa24ab9a4c03fd7e65cd82a040c0dacf9a",
			"f6eb7902da3583f0c3f05cf9ad6b595e9b8a963c28b971d0e2d4982965c62b4a",
			"22b0ef973a45bfd3103405039fe9170f6b0fa4af69d355c0396964bc8e223c9f",
			"b2862181e3e4506644a8f01574faa531bf769c4b7ffbab521a1024eaf35f4603"},
			"0a072e2ca13158a2b29e8160483cf8e1d9f2708ba2cee017a0cb3ac053b75f00",
			"5b72c51f5d476c1b4952dfe3c32345204a05199c227cc3a4813acfe731c596a4",
			"ca856349b84cd7799a725c2c0d870c5374813826db5aa2e5cd1d2b4f1da77b93", 2256},
	} {
		s := made(t, grown(t, rising(), c.height), c.n, sha256.Sum256([]byte("abc")))
		if s.Leaf != c.n || len(s.Once.Open) != signed || len(s.Once.Shut) != signed || len(s.Path) != len(c.path) {
			t.Fatalf("key %d: leaf %d, %d, %d, %d digests", c.n, s.Leaf, len(s.Once.Open), len(s.Once.Shut), len(s.Path))
		}
		for i, wanted := range c.path {
			expect(t, "a path's digest", s.Path[i], wanted)
		}
		expect(t, "all secrets", digestOf(s.Once.Open), c.open)
		expect(t, "all digests", digestOf(s.Once.Shut), c.shut)
		b := written(t, s)
		expect(t, "what is written", sha256.Sum256(b), c.written)
		if len(b) != c.length {
			t.Errorf("%d bytes, not %d", len(b), c.length)
		}
	}
}

func TestP5_1New(t *testing.T) {
	rnd := rand.New(rand.NewSource(1))
	for height := range heights {
		for _, seed := range append(someDigests(rnd, 2), api.Digest{}, ones()) {
			wanted := api.Key{Root: modelRoot(seed, 0, height), Height: height}
			if got := grown(t, seed, height).Key(); got != wanted {
				t.Errorf("seed %x: %x, not %x", seed, got, wanted)
			}
		}
	}
}

func TestP5_1NoSuchHeight(t *testing.T) {
	for _, height := range append(odd(), 7, 8, 31, 32, 62, 63, 64, 65) {
		if x, e := keys.New(rising(), height); x != nil || e != api.ErrArg {
			t.Errorf("height %d: %v, %d", height, x, e)
		}
	}
}

func TestP5_1Sign(t *testing.T) {
	rnd := rand.New(rand.NewSource(2))
	for height := range heights {
		seed := someDigest(rnd)
		x := grown(t, seed, height)
		for n := range 1 << height {
			for _, d := range []api.Digest{{}, ones(), someDigest(rnd)} {
				if got := made(t, x, n, d); !same(got, modelSign(seed, height, n, d)) {
					t.Fatalf("key %d of height %d, digest %x: %x", n, height, d, got)
				}
			}
		}
	}
}

func TestP5_1NoSuchKey(t *testing.T) {
	for height := range heights {
		x := grown(t, rising(), height)
		k, first := x.Key(), made(t, x, 0, ones())
		for _, n := range append(odd(), 1<<height, 1<<height+1, 2<<height, 64, -1<<height) {
			if s, e := x.Sign(n, ones()); e != api.ErrArg || !zero(s) {
				t.Errorf("key %d of height %d: %x, %d", n, height, s, e)
			}
		}
		if x.Key() != k || !same(made(t, x, 0, ones()), first) {
			t.Errorf("height %d: an error changes the tree", height)
		}
	}
}

func TestP5_1NilTree(t *testing.T) {
	var none *keys.Tree
	if k := none.Key(); k != (api.Key{}) {
		t.Errorf("a nil tree's key: %x", k)
	}
	for _, n := range append(odd(), 0, 1, 63) {
		if s, e := none.Sign(n, rising()); e != api.ErrNil || !zero(s) {
			t.Errorf("a nil tree's key %d: %x, %d", n, s, e)
		}
	}
}

// TestP5_1Check: of any lists, be they made by Sign or not, that key is right which they make, and no other.
func TestP5_1Check(t *testing.T) {
	rnd := rand.New(rand.NewSource(3))
	for height := range heights {
		for n := range 1 << height {
			s, d := someSig(rnd, n, height), someDigest(rnd)
			k := modelKey(d, s)
			if !keys.Check(k, d, s) {
				t.Fatalf("leaf %d of height %d doesn't check", n, height)
			}
			for other := -2; other < 9; other++ {
				if keys.Check(api.Key{Root: k.Root, Height: other}, d, s) != (other == height) {
					t.Errorf("leaf %d of height %d as of height %d", n, height, other)
				}
			}
			public := modelOf(d, s.Once)
			for _, root := range []api.Digest{{}, public, modelLeaf(public), sha256.Sum256(nil), someDigest(rnd), turned(k.Root, rnd.Intn(bits))} {
				if root != k.Root && keys.Check(api.Key{Root: root, Height: height}, d, s) {
					t.Errorf("leaf %d of height %d: another root, %x", n, height, root)
				}
			}
		}
	}
}

// TestP5_1CheckHeights: a key that is higher than any can be, or lower, has no signatures, though all else be right.
func TestP5_1CheckHeights(t *testing.T) {
	rnd := rand.New(rand.NewSource(4))
	d := someDigest(rnd)
	for height := heights; height <= 64; height++ {
		s := someSig(rnd, rnd.Intn(128), height)
		if k := modelKey(d, s); keys.Check(k, d, s) {
			t.Errorf("height %d", height)
		}
	}
	for length := range heights + 1 {
		s := someSig(rnd, 0, length)
		root := modelKey(d, s).Root
		for _, height := range odd() {
			if keys.Check(api.Key{Root: root, Height: height}, d, s) {
				t.Errorf("height %d, a path of %d", height, length)
			}
		}
	}
}

// TestP5_1CheckPlaces: a number beside the tree's own ones is none, though its lowest bits are those of one.
func TestP5_1CheckPlaces(t *testing.T) {
	rnd := rand.New(rand.NewSource(5))
	d := someDigest(rnd)
	for height := range heights {
		for n := range 1 << height {
			s := someSig(rnd, n, height)
			k := modelKey(d, s)
			for _, leaf := range append(odd(), n-1<<height, n+1<<height, n+2<<height, n+1<<32, n+math.MinInt, ^n, -n-1) {
				s.Leaf = leaf
				if keys.Check(k, d, s) {
					t.Errorf("leaf %d as %d, height %d", n, leaf, height)
				}
			}
		}
	}
}

// TestP5_1CheckLengths: a path that is cut, or goes on, is none, though it ends at the root that it is held to.
func TestP5_1CheckLengths(t *testing.T) {
	rnd := rand.New(rand.NewSource(6))
	d := someDigest(rnd)
	for height := range heights {
		for length := range heights + 2 {
			s := someSig(rnd, 0, length)
			k := api.Key{Root: modelKey(d, s).Root, Height: height}
			if keys.Check(k, d, s) != (length == height) {
				t.Errorf("height %d, a path of %d", height, length)
			}
		}
	}
}

// TestP5_1CheckSizes: without 32 digests in both lists there is no signature, not even under the leaf of noughts.
func TestP5_1CheckSizes(t *testing.T) {
	rnd := rand.New(rand.NewSource(7))
	d, sizes := someDigest(rnd), []int{0, 1, 31, 32, 33, 64, 1000}
	for _, open := range sizes {
		for _, shut := range sizes {
			s := api.Sig{Once: api.Once{Open: someDigests(rnd, open), Shut: someDigests(rnd, shut)}}
			for _, root := range []api.Digest{{}, modelLeaf(api.Digest{}), sha256.Sum256(nil), sha256.Sum256([]byte{0})} {
				if keys.Check(api.Key{Root: root}, d, s) {
					t.Errorf("%d and %d digests under %x", open, shut, root)
				}
			}
			if good := open == signed && shut == signed; good && !keys.Check(modelKey(d, s), d, s) {
				t.Error("a right signature doesn't check")
			}
		}
	}
	if keys.Check(api.Key{}, api.Digest{}, api.Sig{}) {
		t.Error("zero values check")
	}
}

// TestP5_1Write: whatever has a signature's form is written, behind what the writer has.
func TestP5_1Write(t *testing.T) {
	rnd := rand.New(rand.NewSource(8))
	for _, leaf := range append(odd(), 0, 1, 63, 64) {
		for height := range heights {
			s := someSig(rnd, leaf, height)
			if got := written(t, s); !bytes.Equal(got, modelWritten(s)) {
				t.Errorf("leaf %d, a path of %d: %x", leaf, height, got)
			}
			w := &code.Writer{}
			w.Text("ahead")
			ahead := w.Bytes()
			if !keys.Write(w, s) || !keys.Write(w, s) || !bytes.Equal(w.Bytes(), slices.Concat(ahead, modelWritten(s), modelWritten(s))) {
				t.Errorf("leaf %d, a path of %d, twice behind a text", leaf, height)
			}
		}
	}
}

func TestP5_1WriteSizes(t *testing.T) {
	rnd := rand.New(rand.NewSource(9))
	sizes := []int{0, 1, 31, 32, 33, 64, 100}
	for _, open := range sizes {
		for _, shut := range sizes {
			for path := range heights + 5 {
				s := api.Sig{Leaf: 1, Once: api.Once{Open: someDigests(rnd, open), Shut: someDigests(rnd, shut)}, Path: someDigests(rnd, path)}
				var w code.Writer
				w.Num(7)
				ahead, good := w.Bytes(), open == signed && shut == signed && path < heights
				if got := keys.Write(&w, s); got != good || bytes.Equal(w.Bytes(), ahead) == good {
					t.Errorf("%d, %d, %d digests: %v, %d bytes", open, shut, path, got, len(w.Bytes()))
				}
			}
		}
	}
	if keys.Write(&code.Writer{}, api.Sig{}) {
		t.Error("the zero signature is written")
	}
}

// TestP5_1NilWriter: nothing is written, and the answer is that of the signature's form.
func TestP5_1NilWriter(t *testing.T) {
	s := made(t, grown(t, rising(), 2), 3, ones())
	if !keys.Write(nil, s) {
		t.Error("a signature, and a nil writer")
	}
	s.Once.Shut = s.Once.Shut[:31]
	if keys.Write(nil, s) || keys.Write(nil, api.Sig{}) {
		t.Error("no signature, and a nil writer")
	}
}

// TestP5_1ReadCut: bytes that end too early are none, and nothing is left of them.
func TestP5_1ReadCut(t *testing.T) {
	for height := range heights {
		b := written(t, made(t, grown(t, rising(), height), 0, ones()))
		for n := range b {
			r := code.Read(b[:n])
			if s := keys.Read(r); !zero(s) || r.Good() || r.Num() != 0 {
				t.Fatalf("height %d: %d of %d bytes: %x", height, n, len(b), s)
			}
		}
	}
}

// TestP5_1ReadPathNumber: a number of a path's digests that can't be is a fault, though enough bytes are there.
func TestP5_1ReadPathNumber(t *testing.T) {
	rnd := rand.New(rand.NewSource(10))
	for _, steps := range append(odd(), 0, 1, 5, 6, 7, 8, 64, 256) {
		var w code.Writer
		w.Num(5, steps)
		w.Digest(someDigests(rnd, 400)...)
		r := code.Read(w.Bytes())
		s := keys.Read(r)
		if good := 0 <= steps && steps < heights; r.Good() != good || zero(s) == good || good && len(s.Path) != steps {
			t.Errorf("%d digests in a path: leaf %d, %d digests", steps, s.Leaf, len(s.Path))
		}
	}
}

func TestP5_1ReadFaults(t *testing.T) {
	b := written(t, made(t, grown(t, rising(), 1), 1, ones()))
	spent := code.Read(b)
	spent.In(2, 3) // a fault: the leaf is 1
	for i, r := range []*code.Reader{nil, {}, code.Read(nil), spent} {
		if s := keys.Read(r); !zero(s) || r.Good() {
			t.Errorf("reader %d: %x", i, s)
		}
	}
}

// TestP5_1ReadTakesItsOwn: no byte behind a signature is taken.
func TestP5_1ReadTakesItsOwn(t *testing.T) {
	rnd := rand.New(rand.NewSource(11))
	for height := range heights {
		s := someSig(rnd, 9, height)
		w := &code.Writer{}
		if w.Text("ahead"); !keys.Write(w, s) {
			t.Fatal("a signature isn't written")
		}
		w.Num(258)
		r := code.Read(w.Bytes())
		if r.Text(5) != "ahead" || !same(keys.Read(r), s) || r.Num() != 258 || !r.End() {
			t.Errorf("a path of %d, between others", height)
		}
	}
}

// TestP5_1NothingIsKeptBetweenCalls: an answer hangs on the tree and the arguments, on no other call, ahead of it or at its side, nor on another tree.
func TestP5_1NothingIsKeptBetweenCalls(t *testing.T) {
	var side sync.WaitGroup
	for n := range 8 {
		side.Go(func() {
			rnd := rand.New(rand.NewSource(int64(n)))
			for range 10 {
				seed, d, height := someDigest(rnd), someDigest(rnd), rnd.Intn(4)
				at := rnd.Intn(1 << height)
				x, _ := keys.New(seed, height)
				_, _ = x.Sign(rnd.Intn(1<<height), someDigest(rnd))
				_, _ = keys.New(someDigest(rnd), height)
				s, e := x.Sign(at, d)
				if e != api.OK || !same(s, modelSign(seed, height, at, d)) || !keys.Check(x.Key(), d, s) || x.Key() != modelKey(d, s) {
					t.Errorf("key %d of height %d beside other calls", at, height)
				}
			}
		})
	}
	side.Wait()
}

// TestP5_2EachSignatureChecks: under its key, and by no other number than its own.
func TestP5_2EachSignatureChecks(t *testing.T) {
	rnd := rand.New(rand.NewSource(12))
	for height := range heights {
		x := grown(t, someDigest(rnd), height)
		for n := range 1 << height {
			d := someDigest(rnd)
			s := made(t, x, n, d)
			for leaf := -1; leaf <= 1<<height; leaf++ {
				s.Leaf = leaf
				if keys.Check(x.Key(), d, s) != (leaf == n) {
					t.Fatalf("key %d of height %d as key %d", n, height, leaf)
				}
			}
		}
	}
}

// TestP5_2Digests: a signature is right for the digests that begin with the same 32 bits, and no others.
func TestP5_2Digests(t *testing.T) {
	rnd := rand.New(rand.NewSource(13))
	x := grown(t, someDigest(rnd), 2)
	for n := range 4 {
		d := someDigest(rnd)
		s := made(t, x, n, d)
		for bit := range bits {
			if keys.Check(x.Key(), turned(d, bit), s) != (bit >= signed) {
				t.Errorf("key %d, bit %d", n, bit)
			}
		}
	}
}

// TestP5_2OtherRoots: no signature of a tree is right under another one, of another seed or of another height.
func TestP5_2OtherRoots(t *testing.T) {
	rnd := rand.New(rand.NewSource(14))
	d, seed := someDigest(rnd), someDigest(rnd)
	var trees []*keys.Tree
	for _, other := range []api.Digest{seed, turned(seed, 0), turned(seed, 255), {}} {
		for height := range 4 {
			trees = append(trees, grown(t, other, height))
		}
	}
	for i, x := range trees {
		for n := range 1 << x.Key().Height {
			s := made(t, x, n, d)
			for j, other := range trees {
				mixed := api.Key{Root: other.Key().Root, Height: x.Key().Height}
				if keys.Check(other.Key(), d, s) != (i == j) || keys.Check(mixed, d, s) != (i == j) {
					t.Errorf("key %d of tree %d under tree %d", n, i, j)
				}
			}
		}
	}
}

// TestP5_2OtherLeaves: no leaf's one-time signature is right with another one's path.
func TestP5_2OtherLeaves(t *testing.T) {
	rnd := rand.New(rand.NewSource(15))
	d := someDigest(rnd)
	x := grown(t, someDigest(rnd), 3)
	for n := range 8 {
		for m := range 8 {
			s, other := made(t, x, n, d), made(t, x, m, d)
			s.Once = other.Once
			if keys.Check(x.Key(), d, s) != (n == m) {
				t.Errorf("key %d at the place of %d", m, n)
			}
			s.Leaf = m
			if keys.Check(x.Key(), d, s) != (n == m) {
				t.Errorf("key %d by the path of %d", m, n)
			}
		}
	}
}

// TestP5_2TurnedSignatures: whichever digest of a signature, or bit of the root, is turned, nothing checks.
func TestP5_2TurnedSignatures(t *testing.T) {
	rnd := rand.New(rand.NewSource(16))
	d := someDigest(rnd)
	x := grown(t, someDigest(rnd), api.MaxHeight)
	s, k := made(t, x, 37, d), x.Key()
	for bit := range bits {
		if keys.Check(api.Key{Root: turned(k.Root, bit), Height: k.Height}, d, s) {
			t.Errorf("the root turned at bit %d", bit)
		}
	}
	for which, list := range lists(s) {
		for i, was := range list {
			for _, other := range []api.Digest{turned(was, rnd.Intn(bits)), turned(was, 0), turned(was, 255), {}} {
				if list[i] = other; keys.Check(k, d, s) {
					t.Errorf("list %d, digest %d: %x, not %x", which, i, other, was)
				}
			}
			list[i] = was
		}
	}
	if !keys.Check(k, d, s) {
		t.Error("the signature doesn't check as it was")
	}
}

func TestP5_3ThereAndBack(t *testing.T) {
	rnd := rand.New(rand.NewSource(17))
	for height := range heights {
		x := grown(t, someDigest(rnd), height)
		for n := range 1 << height {
			d := someDigest(rnd)
			s := made(t, x, n, d)
			r := code.Read(written(t, s))
			if got := keys.Read(r); !r.End() || !same(got, s) || !keys.Check(x.Key(), d, got) {
				t.Fatalf("key %d of height %d: %x, not %x", n, height, got, s)
			}
		}
	}
}

// TestP5_3AnySignature: lists that no seed made, and numbers that no tree has, are read as well, one behind the other.
func TestP5_3AnySignature(t *testing.T) {
	rnd := rand.New(rand.NewSource(18))
	var all []api.Sig
	w := &code.Writer{}
	for _, leaf := range append(odd(), 0, 1, 63, 64, 258) {
		for height := range heights {
			s := someSig(rnd, leaf, height)
			if rnd.Intn(4) == 0 {
				clear(s.Once.Open)
			}
			if all = append(all, s); !keys.Write(w, s) {
				t.Fatalf("leaf %d, a path of %d: not written", leaf, height)
			}
		}
	}
	r := code.Read(w.Bytes())
	for i, s := range all {
		if got := keys.Read(r); !same(got, s) {
			t.Fatalf("signature %d: %x, not %x", i, got, s)
		}
	}
	if !r.End() {
		t.Error("something is left")
	}
}

// TestP5_3OneForm: bytes that are read are those that writing the signature makes.
func TestP5_3OneForm(t *testing.T) {
	rnd := rand.New(rand.NewSource(19))
	for range 300 {
		b := make([]byte, 16+32*(64+rnd.Intn(10)))
		rnd.Read(b)
		clear(b[8:15])
		b[15] %= 10
		r := code.Read(b)
		s := keys.Read(r)
		if r.End() != (int(b[15]) == len(b)/32-64 && b[15] <= api.MaxHeight) {
			t.Fatalf("%d bytes, a path of %d", len(b), b[15])
		}
		if r.End() && !bytes.Equal(written(t, s), b) {
			t.Errorf("%d bytes are written another way", len(b))
		}
	}
}

// roomy: a signature whose lists have room to spare, and the whole memory of each, filled.
func roomy(rnd *rand.Rand, s api.Sig) (api.Sig, [][]api.Digest) {
	var all [][]api.Digest
	for _, list := range lists(s) {
		all = append(all, slices.Concat(list, someDigests(rnd, 20)))
	}
	s.Once.Open, s.Once.Shut, s.Path = all[0][:len(s.Once.Open)], all[1][:len(s.Once.Shut)], all[2][:len(s.Path)]
	return s, all
}

func equal(a, b [][]api.Digest) bool { return slices.EqualFunc(a, b, slices.Equal[[]api.Digest]) }

func TestP5_4SignaturesAreUnchanged(t *testing.T) {
	rnd := rand.New(rand.NewSource(20))
	d := someDigest(rnd)
	for height := range heights {
		x := grown(t, someDigest(rnd), height)
		s, all := roomy(rnd, made(t, x, 1<<height-1, d))
		before := [][]api.Digest{slices.Clone(all[0]), slices.Clone(all[1]), slices.Clone(all[2])}
		short := s
		short.Once.Shut = short.Once.Shut[:31]
		if !keys.Check(x.Key(), d, s) || keys.Check(x.Key(), turned(d, 3), s) || keys.Check(x.Key(), d, short) {
			t.Fatalf("height %d: the signature alone checks", height)
		}
		if !keys.Write(&code.Writer{}, s) || keys.Write(&code.Writer{}, short) {
			t.Fatalf("height %d: the signature alone is written", height)
		}
		if !equal(all, before) {
			t.Errorf("height %d: a signature is changed, or the room behind it", height)
		}
	}
}

func TestP5_4SignaturesAreNotKept(t *testing.T) {
	rnd := rand.New(rand.NewSource(21))
	d := someDigest(rnd)
	x := grown(t, someDigest(rnd), 3)
	s := made(t, x, 5, d)
	w := &code.Writer{}
	if !keys.Write(w, s) || !keys.Check(x.Key(), d, s) {
		t.Fatal("a right signature")
	}
	wanted := modelWritten(s)
	for _, list := range lists(s) {
		was := slices.Clone(list)
		clear(list)
		if keys.Check(x.Key(), d, s) || keys.Check(x.Key(), d, s) {
			t.Error("what is written behind a call isn't seen by the next one")
		}
		copy(list, was)
	}
	for _, list := range lists(s) {
		clear(list)
	}
	if !bytes.Equal(w.Bytes(), wanted) || !same(made(t, x, 5, d), modelRead(t, wanted)) {
		t.Error("what is written behind a call is seen")
	}
}

// modelRead: the signature that is written in some bytes, read by its lengths.
func modelRead(t *testing.T, b []byte) api.Sig {
	t.Helper()
	var list []api.Digest
	for piece := range slices.Chunk(b[16:], 32) {
		list = append(list, api.Digest(piece))
	}
	return api.Sig{Leaf: int(b[7]), Once: api.Once{Open: list[:32], Shut: list[32:64]}, Path: list[64:]}
}

// filled writes over all of a signature's lists, spare room included.
func filled(s api.Sig, with byte) {
	for _, list := range lists(s) {
		for i := range list[:cap(list)] {
			list[:cap(list)][i] = api.Digest{with}
		}
	}
}

// apart: whether no list of a signature reaches into another one's memory.
func apart(s api.Sig) bool {
	all := lists(s)
	for which, list := range all {
		before := [][]api.Digest{slices.Clone(all[0]), slices.Clone(all[1]), slices.Clone(all[2])}
		whole := list[:cap(list)]
		for i := range whole {
			whole[i] = api.Digest{0xaa, byte(which)}
		}
		for other := range all {
			if other != which && !slices.Equal(all[other], before[other]) {
				return false
			}
		}
	}
	return true
}

func TestP5_4SignaturesAreNew(t *testing.T) {
	rnd := rand.New(rand.NewSource(22))
	for height := range heights {
		seed, d := someDigest(rnd), someDigest(rnd)
		x := grown(t, seed, height)
		for n := range 1 << height {
			first, second := made(t, x, n, d), made(t, x, n, d)
			wanted := clone(first)
			filled(second, 0xee)
			if !same(first, wanted) || x.Key().Root != modelKey(d, wanted).Root || !same(made(t, x, n, d), wanted) {
				t.Fatalf("key %d of height %d: two answers share memory, or one with the tree", n, height)
			}
			if !apart(first) {
				t.Fatalf("key %d of height %d: an answer's lists share memory", n, height)
			}
		}
		for n := range 1 << height {
			if !keys.Check(x.Key(), d, made(t, x, n, d)) {
				t.Fatalf("key %d of height %d: another one's answer shares memory with the tree", n, height)
			}
		}
	}
}

func TestP5_4ReadSignaturesAreNew(t *testing.T) {
	rnd := rand.New(rand.NewSource(23))
	for height := range heights {
		s := someSig(rnd, 3, height)
		b := modelWritten(s)
		r := code.Read(slices.Concat(b, b))
		first := keys.Read(r)
		wanted := clone(first)
		filled(first, 0xee)
		second, third := keys.Read(r), keys.Read(code.Read(b))
		if !same(wanted, s) || !same(second, s) || !same(third, s) || !bytes.Equal(b, modelWritten(s)) {
			t.Errorf("a path of %d: two answers share memory, or one with the bytes", height)
		}
		clear(b)
		if !same(second, s) || !apart(second) {
			t.Errorf("a path of %d: an answer shares memory", height)
		}
	}
}

func TestP5_4SeedsAreNotKept(t *testing.T) {
	seed, d := rising(), ones()
	x := grown(t, seed, 1)
	k, s := x.Key(), made(t, x, 1, d)
	seed[0], d[0] = seed[0]^1, d[0]^1
	if x.Key() != k || !same(made(t, x, 1, ones()), s) || !same(s, modelSign(rising(), 1, 1, ones())) {
		t.Error("a seed, or a digest, is kept")
	}
	k.Root[0] ^= 1
	if k.Height++; x.Key() == k || x.Key() != modelKey(ones(), s) {
		t.Error("a key is the tree's own")
	}
}
