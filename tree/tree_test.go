package tree_test

import (
	"bytes"
	"encoding/hex"
	"math"
	"math/rand"
	"slices"
	"strings"
	"sync"
	"testing"

	"wapentake/api"
	"wapentake/sha"
	"wapentake/tree"
)

func expect(t *testing.T, what string, got api.Digest, wanted string) {
	t.Helper()
	if hex.EncodeToString(got[:]) != wanted {
		t.Errorf("%s: %x, not %s", what, got, wanted)
	}
}

func TestP3_1Leaf(t *testing.T) {
	rnd := rand.New(rand.NewSource(1))
	for n := range 300 {
		b := make([]byte, n)
		rnd.Read(b)
		if got, wanted := tree.Leaf(b), modelLeaf(b); got != wanted {
			t.Fatalf("a leaf of %d bytes: %x, not %x", n, got, wanted)
		}
	}
	for _, b := range [][]byte{nil, {}} {
		expect(t, "a leaf of no bytes", tree.Leaf(b), "6e340b9cffb37a989ca544e6bb780a2c78901d3fb33738768511a30617afa01d")
	}
	for _, text := range []string{"\x00", "\x00\x00", "\x01", strings.Repeat("\x00", 63), strings.Repeat("x", 100000)} {
		if tree.Leaf([]byte(text)) != modelLeaf([]byte(text)) {
			t.Errorf("a leaf of %d bytes", len(text))
		}
	}
}

// TestP3_1Published: the roots of Certificate Transparency's well-known leaves, whose trees have the document's shape.
func TestP3_1Published(t *testing.T) {
	var leaves []api.Digest
	for _, c := range []struct{ text, wanted string }{
		{"", "6e340b9cffb37a989ca544e6bb780a2c78901d3fb33738768511a30617afa01d"},
		{"\x00", "fac54203e7cc696cf0dfcb42c92a1d9dbaf70ad9e621f4bd8d98662f00e3c125"},
		{"\x10", "aeb6bcfe274b70a14fb067a5e5578264db0fa9b51af5e0ba159158f329e06e77"},
		{"\x20\x21", "d37ee418976dd95753c1c73862b9398fa2a2cf9b4ff0fdfe8b30cd95209614b7"},
		{"\x30\x31", "4e3bbb1f7b478dcfe71fb631631519a3bca12c9aefca1612bfce4c13a86264d4"},
		{"\x40\x41\x42\x43", "76e67dadbcdf1e10e1b74ddc608abd2f98dfb16fbce75277b5232a127f2087ef"},
		{"\x50\x51\x52\x53\x54\x55\x56\x57", "ddb89be403809e325750d3d263cd78929c2942b7942a34b77e122c9594a74c8c"},
		{"\x60\x61\x62\x63\x64\x65\x66\x67\x68\x69\x6a\x6b\x6c\x6d\x6e\x6f", "5dc9da79a70659a9ad559cb701ded9a2ab9d823aad2f4960cfe370eff4604328"},
	} {
		leaves = append(leaves, tree.Leaf([]byte(c.text)))
		expect(t, "a published root", tree.Root(leaves...), c.wanted)
	}
}

func TestP3_1RootOfFew(t *testing.T) {
	var none []api.Digest
	for _, got := range []api.Digest{tree.Root(), tree.Root(none...), tree.Root([]api.Digest{}...)} {
		expect(t, "of none", got, "e3b0c44298fc1c149afbf4c8996fb92427ae41e4649b934ca495991b7852b855")
	}
	a, b, c, d, e := api.Digest{1}, api.Digest{2}, api.Digest{3}, api.Digest{4}, api.Digest{5}
	ab, cd := sha.Pair(1, a, b), sha.Pair(1, c, d)
	for i, pair := range [][2]api.Digest{
		{tree.Root(a), a},
		{tree.Root(api.Digest{}), {}},
		{tree.Root(a, b), ab},
		{tree.Root(b, a), sha.Pair(1, b, a)},
		{tree.Root(a, a), sha.Pair(1, a, a)},
		{tree.Root(a, b, c), sha.Pair(1, ab, c)},
		{tree.Root(a, b, c, d), sha.Pair(1, ab, cd)},
		{tree.Root(a, b, c, d, e), sha.Pair(1, sha.Pair(1, ab, cd), e)},
	} {
		if pair[0] != pair[1] {
			t.Errorf("root %d: %x, not %x", i, pair[0], pair[1])
		}
	}
}

func TestP3_1RootOfMany(t *testing.T) {
	rnd := rand.New(rand.NewSource(2))
	sizes := []int{255, 256, 257, 1000, 1023, 1024, 1025, 4097, 10000}
	for n := range 140 {
		sizes = append(sizes, n)
	}
	for _, n := range sizes {
		leaves := someDigests(rnd, n)
		if got, wanted := tree.Root(leaves...), modelRoot(leaves); got != wanted {
			t.Fatalf("%d leaves: %x, not %x", n, got, wanted)
		}
	}
}

// TestP3_1NoLeafIsAPair: the bytes of two digests make another leaf than the row above has.
func TestP3_1NoLeafIsAPair(t *testing.T) {
	a, b := tree.Leaf([]byte("a")), tree.Leaf([]byte("b"))
	if both := slices.Concat(a[:], b[:]); tree.Leaf(both) == tree.Root(a, b) || tree.Leaf(both) == sha.Of(both) {
		t.Error("a leaf is as a pair, or has no mark")
	}
}

func TestP3_1PathOfFew(t *testing.T) {
	a, b, c, d, e := api.Digest{1}, api.Digest{2}, api.Digest{3}, api.Digest{4}, api.Digest{5}
	ab, cd := sha.Pair(1, a, b), sha.Pair(1, c, d)
	for i, o := range []struct {
		at             int
		leaves, wanted []api.Digest
	}{
		{0, []api.Digest{a}, nil},
		{0, []api.Digest{a, b}, []api.Digest{b}},
		{1, []api.Digest{a, b}, []api.Digest{a}},
		{0, []api.Digest{a, b, c}, []api.Digest{b, c}},
		{1, []api.Digest{a, b, c}, []api.Digest{a, c}},
		{2, []api.Digest{a, b, c}, []api.Digest{ab}},
		{2, []api.Digest{a, b, c, d}, []api.Digest{d, ab}},
		{3, []api.Digest{a, b, c, d, e}, []api.Digest{c, ab, e}},
		{4, []api.Digest{a, b, c, d, e}, []api.Digest{sha.Pair(1, ab, cd)}},
	} {
		if got, ok := tree.Path(o.at, o.leaves...); !ok || !slices.Equal(got, o.wanted) {
			t.Errorf("path %d: %x, %v", i, got, ok)
		}
	}
}

func TestP3_1PathOfMany(t *testing.T) {
	rnd := rand.New(rand.NewSource(3))
	for n := range 100 {
		leaves := someDigests(rnd, n)
		for at := range n {
			got, ok := tree.Path(at, leaves...)
			if !ok || !slices.Equal(got, modelPath(at, leaves)) || len(got) != modelLength(at, n) {
				t.Fatalf("leaf %d of %d: %x, %v", at, n, got, ok)
			}
		}
	}
}

func TestP3_1NoSuchLeaf(t *testing.T) {
	for n := range 20 {
		for _, at := range []int{-1, -2, n, n + 1, -n - 1, math.MinInt, math.MaxInt, 1 << 32, -1 << 32} {
			if got, ok := tree.Path(at, grown(n)...); ok || len(got) != 0 {
				t.Errorf("leaf %d of %d: %x, %v", at, n, got, ok)
			}
		}
	}
}

// TestP3_1CheckPlaces: at any place and of any count a path is held to what the model says of them.
func TestP3_1CheckPlaces(t *testing.T) {
	good := 0
	for n := 1; n < 18; n++ {
		leaves := grown(n)
		root := tree.Root(leaves...)
		for own, leaf := range leaves {
			path, _ := tree.Path(own, leaves...)
			for at := -2; at < 20; at++ {
				for count := -2; count < 36; count++ {
					got, wanted := tree.Check(root, leaf, at, count, path), modelCheck(root, leaf, at, count, path)
					if got != wanted {
						t.Fatalf("leaf %d of %d as %d of %d: %v", own, n, at, count, got)
					}
					if wanted {
						good++
					}
				}
			}
		}
	}
	if good < 18*17/2 {
		t.Errorf("%d were good: these tries don't tell much", good)
	}
}

func TestP3_1CheckNoPlaces(t *testing.T) {
	a := tree.Leaf([]byte("a"))
	for _, c := range []struct{ at, count int }{
		{0, 0}, {-1, 0}, {-1, 1}, {1, 1}, {0, -1}, {-1, -1}, {-2, -1}, {2, 2}, {math.MinInt, 1}, {math.MaxInt, 1},
		{math.MaxInt, math.MaxInt}, {math.MinInt, math.MinInt}, {math.MinInt, math.MaxInt}, {0, math.MinInt}, {-1, math.MaxInt},
	} {
		for _, path := range [][]api.Digest{nil, {}, {a}, {a, a}} {
			for _, root := range []api.Digest{a, sha.Of(), {}, sha.Pair(1, a, a)} {
				if tree.Check(root, a, c.at, c.count, path) {
					t.Errorf("place %d of %d, a path of %d", c.at, c.count, len(path))
				}
			}
		}
	}
	if tree.Check(tree.Root(), tree.Root(), 0, 0, nil) || tree.Check(sha.Of(), api.Digest{}, 0, 0, nil) {
		t.Error("a leaf of none")
	}
}

func TestP3_1CheckOneLeaf(t *testing.T) {
	a, b := api.Digest{1}, api.Digest{2}
	if !tree.Check(a, a, 0, 1, nil) || !tree.Check(a, a, 0, 1, []api.Digest{}) || !tree.Check(api.Digest{}, api.Digest{}, 0, 1, nil) {
		t.Error("a leaf alone is its root")
	}
	if tree.Check(a, b, 0, 1, nil) || tree.Check(sha.Pair(1, a, b), a, 0, 1, []api.Digest{b}) || tree.Check(a, a, 0, 1, []api.Digest{a}) {
		t.Error("another root, or a path, of a leaf alone")
	}
}

// TestP3_1CheckLengths: a path that is cut, or goes on, is none, though its rows end at the root that it is held to.
func TestP3_1CheckLengths(t *testing.T) {
	rnd := rand.New(rand.NewSource(4))
	for n := 1; n < 40; n++ {
		leaves := someDigests(rnd, n)
		root, more := tree.Root(leaves...), someDigests(rnd, 2)
		for at, leaf := range leaves {
			path, _ := tree.Path(at, leaves...)
			for size := range path {
				cut := path[:size]
				top, _ := modelTop(leaf, at, n, cut)
				own := climbed(leaf, at, cut)
				if tree.Check(root, leaf, at, n, cut) || tree.Check(top, leaf, at, n, cut) || tree.Check(own, leaf, at, n, cut) {
					t.Fatalf("leaf %d of %d: %d digests of %d", at, n, size, len(path))
				}
			}
			for size := range 2 {
				long := slices.Concat(path, more[:size+1])
				other := slices.Concat(more[:size+1], path)
				if tree.Check(root, leaf, at, n, long) || tree.Check(root, leaf, at, n, other) || tree.Check(sha.Pair(1, root, more[0]), leaf, at, n, long) || tree.Check(climbed(leaf, at, long), leaf, at, n, long) {
					t.Fatalf("leaf %d of %d: %d digests beyond the path", at, n, size+1)
				}
			}
		}
	}
}

// climbed: where a leaf ends, if each digest of a path stands beside it, whatever the count is.
func climbed(leaf api.Digest, at int, path []api.Digest) api.Digest {
	for _, other := range path {
		if at%2 == 0 {
			leaf = sha.Pair(1, leaf, other)
		} else {
			leaf = sha.Pair(1, other, leaf)
		}
		at /= 2
	}
	return leaf
}

// TestP3_1CheckBits: whichever bit of a root, a leaf or a path is turned, nothing checks.
func TestP3_1CheckBits(t *testing.T) {
	for _, n := range []int{1, 2, 3, 5, 7, 8} {
		leaves := grown(n)
		root := tree.Root(leaves...)
		for at, leaf := range leaves {
			path, _ := tree.Path(at, leaves...)
			list := slices.Concat([]api.Digest{root, leaf}, path)
			for i := range list {
				for bit := range 256 {
					list[i][bit/8] ^= 1 << (bit % 8)
					if tree.Check(list[0], list[1], at, n, list[2:]) {
						t.Fatalf("leaf %d of %d: bit %d of digest %d", at, n, bit, i)
					}
					list[i][bit/8] ^= 1 << (bit % 8)
				}
			}
			if !tree.Check(list[0], list[1], at, n, list[2:]) {
				t.Fatalf("leaf %d of %d doesn't check", at, n)
			}
		}
	}
}

// TestP3_1CheckOthers: no leaf checks by another one's path, nor by its own one in another order.
func TestP3_1CheckOthers(t *testing.T) {
	for n := 2; n < 24; n++ {
		leaves := grown(n)
		root := tree.Root(leaves...)
		for at := range leaves {
			path, _ := tree.Path(at, leaves...)
			for other, leaf := range leaves {
				if other != at && (tree.Check(root, leaf, at, n, path) || tree.Check(root, leaf, other, n, path)) {
					t.Fatalf("leaf %d of %d by the path of %d", other, n, at)
				}
			}
			turned := slices.Clone(path)
			slices.Reverse(turned)
			if len(path) > 1 && tree.Check(root, leaves[at], at, n, turned) {
				t.Fatalf("leaf %d of %d: the path from above", at, n)
			}
		}
	}
}

// TestP3_1CheckNoLeaves: a digest of a row above is no leaf at a place of the leaves, nor under another count's root.
func TestP3_1CheckNoLeaves(t *testing.T) {
	a, b, c, d := tree.Leaf([]byte("a")), tree.Leaf([]byte("b")), tree.Leaf([]byte("c")), tree.Leaf([]byte("d"))
	ab, cd := sha.Pair(1, a, b), sha.Pair(1, c, d)
	root := tree.Root(a, b, c, d)
	for at := range 4 {
		if tree.Check(root, ab, at, 4, []api.Digest{cd}) || tree.Check(root, root, at, 4, nil) {
			t.Errorf("a digest of a row above at place %d", at)
		}
	}
	if !tree.Check(root, ab, 0, 2, []api.Digest{cd}) || !tree.Check(root, root, 0, 1, nil) {
		t.Error("two leaves whose digests are those of pairs, or one")
	}
}

// TestP3_1CheckManyLeaves: so many that nobody holds them; a place's way goes up all the same.
func TestP3_1CheckManyLeaves(t *testing.T) {
	rnd := rand.New(rand.NewSource(5))
	counts := []int{math.MaxInt, math.MaxInt - 1, math.MaxInt/2 + 1, math.MaxInt/2 + 2, math.MaxInt / 2, math.MaxInt32, 1 << 31, 1 << 32, 1<<32 + 1, 1<<40 + 3}
	for range 200 {
		counts = append(counts, 2+int(rnd.Uint64()>>(2+rnd.Intn(60))))
	}
	for _, count := range counts {
		for _, at := range []int{0, 1, count / 2, count - 2, count - 1, rnd.Intn(count)} {
			leaf, path := api.Digest{9}, someDigests(rnd, modelLength(at, count))
			root, ok := modelTop(leaf, at, count, path)
			if !ok || !tree.Check(root, leaf, at, count, path) {
				t.Fatalf("leaf %d of %d doesn't check", at, count)
			}
			longer := append(path, leaf)
			if tree.Check(root, leaf, at, count, path[1:]) || tree.Check(root, leaf, at, count, longer) || tree.Check(leaf, leaf, at, count, nil) {
				t.Fatalf("leaf %d of %d: another path", at, count)
			}
		}
	}
}

// TestP3_1NothingIsKeptBetweenCalls: an answer hangs on no other call, ahead of it or at its side.
func TestP3_1NothingIsKeptBetweenCalls(t *testing.T) {
	var side sync.WaitGroup
	for n := range 8 {
		side.Go(func() {
			rnd := rand.New(rand.NewSource(int64(n)))
			for range 50 {
				leaves := someDigests(rnd, 1+rnd.Intn(40))
				at := rnd.Intn(len(leaves))
				root := tree.Root(leaves...)
				path, ok := tree.Path(at, leaves...)
				if root != modelRoot(leaves) || !ok || !slices.Equal(path, modelPath(at, leaves)) || !tree.Check(root, leaves[at], at, len(leaves), path) {
					t.Errorf("leaf %d of %d beside other calls", at, len(leaves))
				}
			}
		})
	}
	side.Wait()
}

func TestP3_2EachPathChecks(t *testing.T) {
	rnd := rand.New(rand.NewSource(6))
	alike := make([]api.Digest, 80)
	for n := 1; n < 80; n++ {
		for _, leaves := range [][]api.Digest{grown(n), someDigests(rnd, n), alike[:n]} {
			root := tree.Root(leaves...)
			for at, leaf := range leaves {
				if path, ok := tree.Path(at, leaves...); !ok || !tree.Check(root, leaf, at, n, path) {
					t.Fatalf("leaf %d of %d doesn't check", at, n)
				}
			}
		}
	}
	for _, n := range []int{255, 256, 257, 4095, 4096, 4097, 10000} {
		leaves := someDigests(rnd, n)
		root := tree.Root(leaves...)
		for _, at := range []int{0, 1, n / 2, n - 2, n - 1, rnd.Intn(n)} {
			if path, ok := tree.Path(at, leaves...); !ok || !tree.Check(root, leaves[at], at, n, path) {
				t.Errorf("leaf %d of %d doesn't check", at, n)
			}
		}
	}
}

// roomy: some digests with room to spare, and the whole memory behind them, filled.
func roomy(rnd *rand.Rand, n int) (list, whole []api.Digest) {
	whole = someDigests(rnd, n+20)
	return whole[:n], whole
}

func TestP3_3LeavesAreUnchanged(t *testing.T) {
	rnd := rand.New(rand.NewSource(7))
	for n := range 40 {
		leaves, whole := roomy(rnd, n)
		before := slices.Clone(whole)
		root := tree.Root(leaves...)
		for at := -1; at <= n; at++ {
			path, ok := tree.Path(at, leaves...)
			for i := range path[:cap(path)] { // what is answered is the caller's
				path[:cap(path)][i] = api.Digest{0xee}
			}
			if ok != (0 <= at && at < n) {
				t.Fatalf("leaf %d of %d: %v", at, n, ok)
			}
		}
		if !slices.Equal(whole, before) || tree.Root(leaves...) != root {
			t.Fatalf("%d leaves are changed, or the room behind them", n)
		}
	}
}

func TestP3_3LeavesAreNotKept(t *testing.T) {
	rnd := rand.New(rand.NewSource(8))
	for n := 1; n < 40; n++ {
		leaves, whole := roomy(rnd, n)
		for at := range n {
			path, _ := tree.Path(at, leaves...)
			wanted := slices.Clone(path)
			for i := range whole {
				whole[i][i%32] ^= 0xa5
			}
			if !slices.Equal(path, wanted) {
				t.Fatalf("leaf %d of %d: what is written behind the call is seen", at, n)
			}
			if again, _ := tree.Path(at, leaves...); !slices.Equal(again, modelPath(at, leaves)) || tree.Root(leaves...) != modelRoot(leaves) {
				t.Fatalf("leaf %d of %d: an earlier call is answered again", at, n)
			}
		}
	}
}

func TestP3_3PathsAreNew(t *testing.T) {
	leaves := grown(21)
	for at := range leaves {
		first, _ := tree.Path(at, leaves...)
		second, _ := tree.Path(at, leaves...)
		wanted := slices.Clone(first)
		for i := range second[:cap(second)] {
			second[:cap(second)][i] = api.Digest{0xee}
		}
		if !slices.Equal(first, wanted) {
			t.Errorf("leaf %d: two answers share memory", at)
		}
	}
}

func TestP3_3CheckLeavesPathsAlone(t *testing.T) {
	rnd := rand.New(rand.NewSource(9))
	for n := 1; n < 40; n++ {
		leaves := someDigests(rnd, n)
		root := tree.Root(leaves...)
		for at, leaf := range leaves {
			path, _ := tree.Path(at, leaves...)
			whole := slices.Concat(path, someDigests(rnd, 4))
			before := slices.Clone(whole)
			list := whole[:len(path)]
			if !tree.Check(root, leaf, at, n, list) || tree.Check(api.Digest{}, leaf, at, n, list) || tree.Check(root, leaf, at, n, whole) {
				t.Fatalf("leaf %d of %d: its path alone checks", at, n)
			}
			if !slices.Equal(whole, before) {
				t.Fatalf("leaf %d of %d: a path is changed, or the room behind it", at, n)
			}
			clear(list)
			if n > 1 && tree.Check(root, leaf, at, n, list) {
				t.Fatalf("leaf %d of %d: a path is kept", at, n)
			}
		}
	}
}

func TestP3_3LeafKeepsNothing(t *testing.T) {
	whole := []byte("some bytes, and the room behind them")
	before := bytes.Clone(whole)
	for n := range whole {
		b := whole[:n]
		first := tree.Leaf(b)
		if !bytes.Equal(whole, before) {
			t.Fatalf("%d bytes are changed, or the room behind them", n)
		}
		for i := range whole {
			whole[i] ^= 0x5a
		}
		if first != modelLeaf(before[:n]) || tree.Leaf(b) != modelLeaf(b) {
			t.Errorf("%d bytes are kept", n)
		}
		copy(whole, before)
	}
}
