package config_test

import (
	"bytes"
	"encoding/hex"
	"math"
	"math/bits"
	"math/rand"
	"slices"
	"strings"
	"testing"

	"wapentake/api"
	"wapentake/code"
	"wapentake/config"
)

func expect(t *testing.T, what string, got []byte, wanted string) {
	t.Helper()
	if hex.EncodeToString(got) != wanted {
		t.Errorf("%s: %x, not %s", what, got, wanted)
	}
}

func written(c api.Config) []byte {
	var w code.Writer
	config.Write(&w, c)
	return w.Bytes()
}

// sizes: f, a quorum and a weak quorum.
func sizes(c api.Config) [3]int { return [3]int{config.Faults(c), config.Quorum(c), config.Weak(c)} }

// applied: the configuration behind a change, which must be one.
func applied(t *testing.T, c api.Config, x api.Change) api.Config {
	t.Helper()
	d, e := config.Apply(c, x)
	if e != api.OK {
		t.Fatalf("epoch %d, members %v, %+v: error %d", c.Epoch, ids(c), x, e)
	}
	return d
}

// refused: that a change isn't made, for a reason.
func refused(t *testing.T, what string, c api.Config, x api.Change, wanted api.Errno) {
	t.Helper()
	if d, e := config.Apply(c, x); e != wanted || !zero(d) {
		t.Errorf("%s: epoch %d, members %v, kind %d, id %d, new %d, height %d: error %d, not %d, members %v", what, c.Epoch, ids(c), x.Kind, x.Id, x.New, x.Key.Height, e, wanted, ids(d))
	}
}

// alike: that the program and the model answer the same of a configuration and a change.
func alike(t *testing.T, c api.Config, x api.Change) (api.Config, api.Errno) {
	t.Helper()
	d, e := config.Apply(c, x)
	if wanted, why := modelApply(c, x); e != why || !same(d, wanted) {
		t.Fatalf("epoch %d, members %v, %+v: error %d, members %v, not error %d, members %v", c.Epoch, ids(c), x, e, ids(d), why, ids(wanted))
	}
	return d, e
}

// TestP8_1Example is the chapter's.
func TestP8_1Example(t *testing.T) {
	for n, wanted := range map[int][3]int{4: {1, 3, 2}, 6: {1, 4, 2}, 7: {2, 5, 3}} {
		if got := sizes(first(n)); got != wanted {
			t.Errorf("of %d: %v, not %v", n, got, wanted)
		}
	}
}

// TestP8_1Sizes: from no members up to MaxMembers, worked out by hand.
func TestP8_1Sizes(t *testing.T) {
	for n, wanted := range [][3]int{{0, 1, 1}, {0, 1, 1}, {0, 2, 1}, {0, 2, 1}, {1, 3, 2}, {1, 4, 2}, {1, 4, 2}, {2, 5, 3}, {2, 6, 3}, {2, 6, 3}, {3, 7, 4}} {
		if got := sizes(first(n)); got != wanted {
			t.Errorf("of %d: %v, not %v", n, got, wanted)
		}
	}
}

// TestP8_1SizesOfAny: they hang on the number of members alone, be the configuration one that can be or not.
func TestP8_1SizesOfAny(t *testing.T) {
	for n := range 1000 {
		c := api.Config{Epoch: n - 500, Members: make([]api.Member, n)}
		if got, wanted := sizes(c), [3]int{modelFaults(n), modelQuorum(n), modelFaults(n) + 1}; got != wanted {
			t.Errorf("of %d: %v, not %v", n, got, wanted)
		}
	}
}

func TestP8_1Good(t *testing.T) {
	for n := range 80 {
		if c := first(n); config.Good(c) != (1 <= n && n <= 10) {
			t.Errorf("%d members can be: %t", n, config.Good(c))
		}
	}
	if config.Good(api.Config{}) || config.Good(api.Config{Epoch: 1, Members: []api.Member{}}) {
		t.Error("no members can be")
	}
	for _, n := range odd() {
		if got := config.Good(of(n, 1, 2)); got != (0 <= n && n <= 1<<30) {
			t.Errorf("the epoch %d can be: %t", n, got)
		}
		if got := config.Good(of(0, n)); got != (1 <= n && n <= 63) {
			t.Errorf("the Id %d can be: %t", n, got)
		}
		for at := range 3 {
			c := of(0, 1, 32, 63)
			c.Members[at].Key.Height = n
			if got := config.Good(c); got != (0 <= n && n <= 6) {
				t.Errorf("the height %d can be: %t", n, got)
			}
		}
	}
	for _, all := range [][]int{{1}, {63}, {1, 63}, {62, 63}, {1, 2, 3}, {54, 55, 56, 57, 58, 59, 60, 61, 62, 63}} {
		if !config.Good(of(1<<30, all...)) {
			t.Errorf("members %v can't be", all)
		}
	}
}

// TestP8_1GoodRising: Ids that are twice, that fall, or that are beyond their limits at any place.
func TestP8_1GoodRising(t *testing.T) {
	for _, all := range [][]int{{1, 1}, {2, 1}, {63, 63}, {63, 1}, {1, 2, 2}, {1, 3, 2}, {2, 1, 3}, {2, 2, 3}, {1, 2, 1}, {3, 2, 1}, {0, 1}, {-1, 1}, {0, 0}, {63, 64}, {1, 64}, {1, 0}, {1, -1}, {1, math.MaxInt}, {math.MinInt, 1}, {math.MaxInt, math.MinInt}, {1, 2, 3, 4, 5, 6, 7, 8, 9, 9}} {
		if config.Good(of(0, all...)) {
			t.Errorf("members %v can be", all)
		}
	}
	for n := 2; n <= 10; n++ {
		for at := 1; at < n; at++ {
			c := first(n)
			c.Members[at-1], c.Members[at] = c.Members[at], c.Members[at-1]
			twice := first(n)
			twice.Members[at].Id = twice.Members[at-1].Id
			if config.Good(c) || config.Good(twice) {
				t.Errorf("%d members, of which that at %d doesn't rise, can be", n, at)
			}
		}
	}
}

func TestP8_1GoodOfAny(t *testing.T) {
	rnd := rand.New(rand.NewSource(1))
	times := map[bool]int{}
	for range 20000 {
		c := someBad(rnd)
		if config.Good(c) != modelGood(c) {
			t.Fatalf("epoch %d, members %v can be: %t", c.Epoch, ids(c), config.Good(c))
		}
		times[modelGood(c)]++
	}
	if times[true] < 1000 || times[false] < 1000 {
		t.Error("both kinds are wanted among them")
	}
}

func TestP8_1Find(t *testing.T) {
	c := of(7, 2, 3, 9, 40, 63)
	for at, id := range []int{2, 3, 9, 40, 63} {
		if m, place, is := config.Find(c, id); m != c.Members[at] || place != at || !is {
			t.Errorf("member %d: %d, at %d, %t", id, m.Id, place, is)
		}
	}
	for _, id := range append(odd(), 39, 41, 62) {
		if slices.Contains(ids(c), id) {
			continue
		}
		if m, place, is := config.Find(c, id); m != (api.Member{}) || place != 0 || is {
			t.Errorf("member %d: %d, at %d, %t", id, m.Id, place, is)
		}
	}
}

// TestP8_1FindInAny: of a configuration that can't be, too, the first member of that Id.
func TestP8_1FindInAny(t *testing.T) {
	twice := of(-1, 0, 5, -3, 5, 64, 0, 5)
	for i := range twice.Members {
		twice.Members[i].Key = keyOf(100 + i)
	}
	for id, at := range map[int]int{0: 0, 5: 1, -3: 2, 64: 4} {
		if m, place, is := config.Find(twice, id); m != twice.Members[at] || place != at || !is {
			t.Errorf("member %d: at %d, %t", id, place, is)
		}
	}
	if m, place, is := config.Find(api.Config{}, 0); m != (api.Member{}) || place != 0 || is {
		t.Error("a member of none")
	}
	rnd := rand.New(rand.NewSource(2))
	for range 5000 {
		c := someBad(rnd)
		for _, id := range append(odd(), ids(c)...) {
			m, place, is := config.Find(c, id)
			wanted, at, has := modelFind(c, id)
			if m != wanted || place != at || is != has {
				t.Fatalf("member %d of %v: %d, at %d, %t", id, ids(c), m.Id, place, is)
			}
		}
	}
}

// known are configurations with what another program than Go's made of the document's words.
func known() []struct {
	c             api.Config
	bytes, digest string
} {
	member := func(id, height int, root api.Digest) api.Member {
		return api.Member{Id: id, Key: api.Key{Root: root, Height: height}}
	}
	ten := api.Config{Epoch: 7}
	for k := 1; k <= 10; k++ {
		ten.Members = append(ten.Members, member(3*k, k%7, api.Digest(bytes.Repeat([]byte{byte(k)}, 32))))
	}
	return []struct {
		c             api.Config
		bytes, digest string
	}{
		{api.Config{}, strings.Repeat("00", 16), "3f73c0b03afcc107a6547431b839eee61a1241d7f14b15b30e9d36e69ecd29ef"},
		{api.Config{Members: []api.Member{member(1, 0, api.Digest{})}}, "000000000000000000000000000000010000000000000001" + strings.Repeat("00", 40), "08a83030ee6c0c47216c4f64aeac98af428ce3de50b83bc9d9b77cf136785890"},
		{api.Config{Epoch: 1 << 30, Members: []api.Member{member(63, 6, ones())}}, "00000000400000000000000000000001000000000000003f0000000000000006" + strings.Repeat("ff", 32), "60c09722351b0b1804aef22d0f77a82d1678cd8ec26623c5d1c747f2e13cd2b8"},
		{api.Config{Epoch: 258, Members: []api.Member{member(1, 3, rising()), member(2, 0, ones()), member(40, 6, api.Digest{}), member(63, 1, rising())}}, "", "df2a64ab4c4e14792cb83be427cd3cd33ef5940b2eeaf637c9ba51fbb08a8e38"},
		{api.Config{Epoch: -1, Members: []api.Member{member(64, -1, ones()), member(-5, 7, rising())}}, "ffffffffffffffff00000000000000020000000000000040" + strings.Repeat("ff", 40) + "fffffffffffffffb0000000000000007000102030405060708090a0b0c0d0e0f101112131415161718191a1b1c1d1e1f", "cda169f10040a9c01a51b63a0a95f60038d912e472f5f2e86a91296abbb41486"},
		{ten, "", "7c243307eaabe73183a91f674482b8c9f469366349e8d932981f41fac0584f28"},
	}
}

func TestP8_1Known(t *testing.T) {
	for _, k := range known() {
		if k.bytes != "" {
			expect(t, "bytes", written(k.c), k.bytes)
		}
		if len(written(k.c)) != 16+48*len(k.c.Members) {
			t.Errorf("members %v have %d bytes", ids(k.c), len(written(k.c)))
		}
		d := config.Digest(k.c)
		expect(t, "a digest", d[:], k.digest)
	}
}

// TestP8_1WriteAndDigest: of any configuration, be it one that can be or not; bytes go behind what was written.
func TestP8_1WriteAndDigest(t *testing.T) {
	rnd := rand.New(rand.NewSource(3))
	for range 3000 {
		c, d := someBad(rnd), someBad(rnd)
		w := &code.Writer{}
		w.Text("ahead")
		config.Write(w, c)
		config.Write(w, d)
		if !bytes.Equal(w.Bytes(), slices.Concat([]byte("\x00\x00\x00\x05ahead"), modelBytes(c), modelBytes(d))) {
			t.Fatalf("epochs %d and %d, members %v and %v: %x", c.Epoch, d.Epoch, ids(c), ids(d), w.Bytes())
		}
		if config.Digest(c) != modelDigest(c) {
			t.Fatalf("epoch %d, members %v: the digest %x", c.Epoch, ids(c), config.Digest(c))
		}
	}
}

// TestP8_1DigestsApart: what differs in one thing has another digest.
func TestP8_1DigestsApart(t *testing.T) {
	c := of(5, 1, 2, 63)
	others := []api.Config{{}, of(6, 1, 2, 63), of(5, 1, 2), of(5, 1, 3, 63), of(5, 2, 1, 63), of(5, 1, 2, 63, 63)}
	for at := range c.Members {
		higher, other := clone(c), clone(c)
		higher.Members[at].Key.Height++
		other.Members[at].Key.Root[31] ^= 1
		others = append(others, higher, other)
	}
	for i, d := range others {
		if config.Digest(d) == config.Digest(c) {
			t.Errorf("configuration %d has the same digest", i)
		}
	}
}

func TestP8_1NilWriter(t *testing.T) {
	config.Write(nil, first(4))
	config.Write(nil, api.Config{})
}

// none: that a reader has no configuration, and a fault.
func none(t *testing.T, what string, r *code.Reader) {
	t.Helper()
	if c := config.Read(r); !zero(c) || r.Good() || r.End() {
		t.Errorf("%s: epoch %d, members %v, good %t", what, c.Epoch, ids(c), r.Good())
	}
}

func TestP8_1NilReader(t *testing.T) {
	none(t, "a nil reader", nil)
}

func TestP8_1ReadBehindFault(t *testing.T) {
	r := code.Read(modelBytes(first(4)))
	r.In(1, 1)
	none(t, "behind a fault", r)
	none(t, "once more", r)
}

// TestP8_1ReadCut: bytes of which the last ones are missing are none's.
func TestP8_1ReadCut(t *testing.T) {
	for _, n := range []int{1, 2, 10} {
		b := modelBytes(first(n))
		for size := range len(b) {
			none(t, "cut bytes", code.Read(b[:size]))
		}
	}
}

// TestP8_1ReadOfNone: bytes of other things.
func TestP8_1ReadOfNone(t *testing.T) {
	for _, b := range [][]byte{nil, {}, {1}, []byte("config"), bytes.Repeat([]byte{0}, 500), bytes.Repeat([]byte{1}, 500), bytes.Repeat([]byte{255}, 500), []byte(strings.Repeat("abc", 200))} {
		none(t, "other bytes", code.Read(b))
	}
	for _, n := range []int{-1, 0, 11, 12, 255, 256, 1<<32 + 1, 1 << 61, math.MaxInt, math.MinInt} {
		w := &code.Writer{}
		w.Num(3, n)
		for id := 1; id <= 12; id++ {
			w.Num(id, 0)
			w.Digest(rising())
		}
		none(t, "members", code.Read(w.Bytes()))
	}
}

// TestP8_1ReadLimits: each number at its limits, and beyond them.
func TestP8_1ReadLimits(t *testing.T) {
	for _, n := range odd() {
		changed := []api.Config{of(n, 1, 2), of(3, n), of(3, n, 63), of(3, 1, n), of(3, 5, n, 7)}
		for at := range 3 {
			c := of(3, 1, 32, 63)
			c.Members[at].Key.Height = n
			changed = append(changed, c)
		}
		for _, c := range changed {
			r := code.Read(modelBytes(c))
			if !modelGood(c) {
				none(t, "beyond the limits", r)
			} else if got := config.Read(r); !same(got, c) || !r.End() {
				t.Errorf("epoch %d, members %v aren't read", c.Epoch, ids(c))
			}
		}
	}
}

// TestP8_1ReadRising: Ids that don't rise are a fault, and nothing of what stands ahead of them is answered.
func TestP8_1ReadRising(t *testing.T) {
	for _, all := range [][]int{{1, 1}, {2, 1}, {63, 63}, {1, 2, 2}, {1, 3, 2}, {2, 1, 3}, {0, 1}, {63, 64}, {1, 0}, {1, -1}, {1, 2, 3, 4, 5, 6, 7, 8, 9, 9}} {
		none(t, "Ids that don't rise", code.Read(modelBytes(of(0, all...))))
	}
}

// TestP8_1ReadAny: bytes of any configuration, some of them turned, with others behind: just the model's, and what is behind is left.
func TestP8_1ReadAny(t *testing.T) {
	rnd := rand.New(rand.NewSource(4))
	times := map[bool]int{}
	for range 20000 {
		b := modelBytes(someBad(rnd))
		for range rnd.Intn(3) {
			b[rnd.Intn(len(b))] ^= 1 << rnd.Intn(8)
		}
		b = append(b, "behind"[:rnd.Intn(7)]...)
		r := code.Read(b)
		c := config.Read(r)
		wanted, size, is := modelRead(b)
		if !same(c, wanted) || r.Good() != is || r.End() != (is && size == len(b)) {
			t.Fatalf("%x: epoch %d, members %v, good %t, end %t", b, c.Epoch, ids(c), r.Good(), r.End())
		}
		times[is]++
	}
	if times[true] < 1000 || times[false] < 1000 {
		t.Error("both kinds are wanted among them")
	}
}

// TestP8_1ReadTakesItsOwn: what stands ahead and behind is another one's.
func TestP8_1ReadTakesItsOwn(t *testing.T) {
	c, d := first(10), of(1<<30, 63)
	w := &code.Writer{}
	w.Num(-1)
	config.Write(w, c)
	w.Text("between")
	config.Write(w, d)
	w.Digest(ones())
	r := code.Read(w.Bytes())
	if r.Num() != -1 || !same(config.Read(r), c) || r.Text(7) != "between" || !same(config.Read(r), d) || r.End() || r.Digest() != ones() || !r.End() {
		t.Error("more or less than a configuration's bytes is taken")
	}
}

// TestP8_1Apply: each kind of change, worked out by hand; the new member stands where its Id belongs.
func TestP8_1Apply(t *testing.T) {
	key := api.Key{Root: ones(), Height: 6}
	for _, c := range []struct {
		ids    []int
		x      api.Change
		wanted []int
		at     int // where the new key is; -1: nowhere
	}{
		{[]int{5}, api.Change{Kind: api.ChangeAdd, Id: 1, Key: key}, []int{1, 5}, 0},
		{[]int{5}, api.Change{Kind: api.ChangeAdd, Id: 63, Key: key}, []int{5, 63}, 1},
		{[]int{2, 4, 6}, api.Change{Kind: api.ChangeAdd, Id: 3, New: 99, Key: key}, []int{2, 3, 4, 6}, 1},
		{[]int{1, 2, 3, 4, 5, 6, 7, 8, 9}, api.Change{Kind: api.ChangeAdd, Id: 10, New: 1, Key: key}, []int{1, 2, 3, 4, 5, 6, 7, 8, 9, 10}, 9},
		{[]int{1, 2}, api.Change{Kind: api.ChangeRemove, Id: 1}, []int{2}, -1},
		{[]int{1, 2}, api.Change{Kind: api.ChangeRemove, Id: 2, New: -7, Key: api.Key{Height: 7}}, []int{1}, -1},
		{[]int{2, 4, 6}, api.Change{Kind: api.ChangeRemove, Id: 4, New: 2, Key: api.Key{Height: -1}}, []int{2, 6}, -1},
		{[]int{2, 4, 6}, api.Change{Kind: api.ChangeReplace, Id: 4, New: 5, Key: key}, []int{2, 5, 6}, 1},
		{[]int{2, 4, 6}, api.Change{Kind: api.ChangeReplace, Id: 6, New: 1, Key: key}, []int{1, 2, 4}, 0},
		{[]int{2, 4, 6}, api.Change{Kind: api.ChangeReplace, Id: 2, New: 63, Key: key}, []int{4, 6, 63}, 2},
		{[]int{2}, api.Change{Kind: api.ChangeReplace, Id: 2, New: 1, Key: key}, []int{1}, 0},
		{[]int{1, 2, 3, 4, 5, 6, 7, 8, 9, 10}, api.Change{Kind: api.ChangeReplace, Id: 1, New: 11, Key: key}, []int{2, 3, 4, 5, 6, 7, 8, 9, 10, 11}, 9},
		{[]int{2, 4, 6}, api.Change{Kind: api.ChangeRotate, Id: 2, Key: key}, []int{2, 4, 6}, 0},
		{[]int{2, 4, 6}, api.Change{Kind: api.ChangeRotate, Id: 6, New: 2, Key: key}, []int{2, 4, 6}, 2},
		{[]int{63}, api.Change{Kind: api.ChangeRotate, Id: 63, New: 64, Key: key}, []int{63}, 0},
	} {
		wanted := of(8, c.wanted...)
		if c.at >= 0 {
			wanted.Members[c.at].Key = key
		}
		if got := applied(t, of(7, c.ids...), c.x); !same(got, wanted) {
			t.Errorf("members %v, %+v: epoch %d, members %v, not %v", c.ids, c.x, got.Epoch, ids(got), c.wanted)
		}
	}
}

// TestP8_1ApplyKeys: a key that is there already, be it the same member's or another one's, may come again.
func TestP8_1ApplyKeys(t *testing.T) {
	c := of(0, 2, 4)
	for _, x := range []api.Change{{Kind: api.ChangeRotate, Id: 2, Key: keyOf(2)}, {Kind: api.ChangeRotate, Id: 2, Key: keyOf(4)}, {Kind: api.ChangeAdd, Id: 3, Key: keyOf(2)}, {Kind: api.ChangeReplace, Id: 2, New: 3, Key: keyOf(2)}, {Kind: api.ChangeReplace, Id: 2, New: 3, Key: keyOf(4)}} {
		if d, e := alike(t, c, x); e != api.OK || d.Epoch != 1 {
			t.Errorf("%+v: error %d, epoch %d", x, e, d.Epoch)
		}
	}
}

// TestP8_1ApplyEpochs: the last epoch has no next one.
func TestP8_1ApplyEpochs(t *testing.T) {
	changes := []api.Change{{Kind: api.ChangeAdd, Id: 3, Key: keyOf(3)}, {Kind: api.ChangeRemove, Id: 1}, {Kind: api.ChangeReplace, Id: 1, New: 3, Key: keyOf(3)}, {Kind: api.ChangeRotate, Id: 1, Key: keyOf(3)}}
	for _, x := range changes {
		for _, epoch := range []int{0, 1, 258, 1<<30 - 2, 1<<30 - 1} {
			if d := applied(t, of(epoch, 1, 2), x); d.Epoch != epoch+1 {
				t.Errorf("the epoch %d is behind %d", d.Epoch, epoch)
			}
		}
		for _, epoch := range []int{-1, 1 << 30, 1<<30 + 1, 1<<31 - 1, 1 << 31, 1 << 32, math.MaxInt, math.MinInt} {
			refused(t, "the epoch", of(epoch, 1, 2), x, api.ErrArg)
		}
	}
}

// TestP8_1ApplyToNone: nothing is done to a configuration that can't be, whatever it is.
func TestP8_1ApplyToNone(t *testing.T) {
	high := of(0, 1, 2)
	high.Members[1].Key.Height = 7
	low := of(0, 1, 2)
	low.Members[0].Key.Height = -1
	for _, c := range []api.Config{{}, first(11), first(12), of(-1, 1, 2), of(1<<30+1, 1, 2), of(0, 0, 1, 2), of(0, 1, 2, 64), of(0, 1, 1), of(0, 2, 1), high, low} {
		for kind := -1; kind <= 6; kind++ {
			for _, id := range []int{-1, 0, 1, 2, 3, 13, 63, 64} {
				refused(t, "of none", c, api.Change{Kind: kind, Id: id, New: 20, Key: keyOf(1)}, api.ErrArg)
			}
		}
	}
}

// TestP8_1ApplyKinds: a kind that isn't there changes nothing.
func TestP8_1ApplyKinds(t *testing.T) {
	for _, kind := range append(odd(), 2-1<<8, 2+1<<8, 2+1<<32, 3-1<<32) {
		if 1 <= kind && kind <= 4 {
			continue
		}
		for _, id := range []int{0, 1, 2, 5, 63, 64} {
			refused(t, "of no kind", first(4), api.Change{Kind: kind, Id: id, New: 9, Key: keyOf(1)}, api.ErrArg)
			refused(t, "of no kind", first(10), api.Change{Kind: kind, Id: id, New: id, Key: keyOf(1)}, api.ErrArg)
			refused(t, "of no kind", first(1), api.Change{Kind: kind, Id: id}, api.ErrArg)
		}
	}
}

// TestP8_1ApplyErrors: each one alone, worked out by hand.
func TestP8_1ApplyErrors(t *testing.T) {
	key := keyOf(1)
	for _, c := range []struct {
		what string
		n    int
		x    api.Change
		e    api.Errno
	}{
		{"an Id of 0 comes", 4, api.Change{Kind: api.ChangeAdd, Id: 0, New: 9, Key: key}, api.ErrArg},
		{"an Id of 64 comes", 4, api.Change{Kind: api.ChangeAdd, Id: 64, New: 9, Key: key}, api.ErrArg},
		{"an Id below 0 comes", 4, api.Change{Kind: api.ChangeAdd, Id: -1, New: 9, Key: key}, api.ErrArg},
		{"too high a key comes", 4, api.Change{Kind: api.ChangeAdd, Id: 9, Key: api.Key{Height: 7}}, api.ErrArg},
		{"too low a key comes", 4, api.Change{Kind: api.ChangeAdd, Id: 9, Key: api.Key{Height: -1}}, api.ErrArg},
		{"one comes who is there", 4, api.Change{Kind: api.ChangeAdd, Id: 4, New: 9, Key: key}, api.ErrOther},
		{"an eleventh one comes", 10, api.Change{Kind: api.ChangeAdd, Id: 11, Key: key}, api.ErrMany},
		{"one goes who isn't there", 4, api.Change{Kind: api.ChangeRemove, Id: 5, New: 1, Key: key}, api.ErrNone},
		{"0 goes", 4, api.Change{Kind: api.ChangeRemove, Id: 0, New: 1, Key: key}, api.ErrNone},
		{"64 goes", 4, api.Change{Kind: api.ChangeRemove, Id: 64, New: 1, Key: key}, api.ErrNone},
		{"the only one goes", 1, api.Change{Kind: api.ChangeRemove, Id: 1, New: 2, Key: key}, api.ErrFew},
		{"0 comes for one", 4, api.Change{Kind: api.ChangeReplace, Id: 1, New: 0, Key: key}, api.ErrArg},
		{"64 comes for one", 4, api.Change{Kind: api.ChangeReplace, Id: 1, New: 64, Key: key}, api.ErrArg},
		{"too high a key comes for one", 4, api.Change{Kind: api.ChangeReplace, Id: 1, New: 9, Key: api.Key{Height: 7}}, api.ErrArg},
		{"one comes for none", 4, api.Change{Kind: api.ChangeReplace, Id: 5, New: 9, Key: key}, api.ErrNone},
		{"one comes for 0", 4, api.Change{Kind: api.ChangeReplace, Id: 0, New: 9, Key: key}, api.ErrNone},
		{"one comes for 64", 4, api.Change{Kind: api.ChangeReplace, Id: 64, New: 9, Key: key}, api.ErrNone},
		{"one who is there comes for another one", 4, api.Change{Kind: api.ChangeReplace, Id: 1, New: 2, Key: key}, api.ErrOther},
		{"one comes for itself", 4, api.Change{Kind: api.ChangeReplace, Id: 1, New: 1, Key: key}, api.ErrOther},
		{"the only one comes for itself", 1, api.Change{Kind: api.ChangeReplace, Id: 1, New: 1, Key: key}, api.ErrOther},
		{"0 has another key", 4, api.Change{Kind: api.ChangeRotate, Id: 0, New: 1, Key: key}, api.ErrArg},
		{"64 has another key", 4, api.Change{Kind: api.ChangeRotate, Id: 64, New: 1, Key: key}, api.ErrArg},
		{"one has too high a key", 4, api.Change{Kind: api.ChangeRotate, Id: 1, Key: api.Key{Height: 7}}, api.ErrArg},
		{"one has too low a key", 4, api.Change{Kind: api.ChangeRotate, Id: 1, Key: api.Key{Height: -1}}, api.ErrArg},
		{"one who isn't there has another key", 4, api.Change{Kind: api.ChangeRotate, Id: 5, New: 1, Key: key}, api.ErrNone},
	} {
		refused(t, c.what, first(c.n), c.x, c.e)
	}
}

// TestP8_1ApplyErrorsInOrder: where several apply, it is the one that the chapter tells first.
func TestP8_1ApplyErrorsInOrder(t *testing.T) {
	high := api.Key{Height: 7}
	for _, c := range []struct {
		what string
		n    int
		x    api.Change
		e    api.Errno
	}{
		{"too high, there, and too many", 10, api.Change{Kind: api.ChangeAdd, Id: 3, Key: high}, api.ErrArg},
		{"64, and too many", 10, api.Change{Kind: api.ChangeAdd, Id: 64, Key: keyOf(1)}, api.ErrArg},
		{"there, and too many", 10, api.Change{Kind: api.ChangeAdd, Id: 3, Key: keyOf(1)}, api.ErrOther},
		{"not there, and only one", 1, api.Change{Kind: api.ChangeRemove, Id: 2}, api.ErrNone},
		{"too high, and for none", 4, api.Change{Kind: api.ChangeReplace, Id: 9, New: 10, Key: high}, api.ErrArg},
		{"0, and for none", 4, api.Change{Kind: api.ChangeReplace, Id: 9, New: 0, Key: keyOf(1)}, api.ErrArg},
		{"too high, and there", 4, api.Change{Kind: api.ChangeReplace, Id: 1, New: 2, Key: high}, api.ErrArg},
		{"for none, and there", 4, api.Change{Kind: api.ChangeReplace, Id: 9, New: 2, Key: keyOf(1)}, api.ErrNone},
		{"too high, for none, and there", 4, api.Change{Kind: api.ChangeReplace, Id: 9, New: 2, Key: high}, api.ErrArg},
		{"too high, and not there", 4, api.Change{Kind: api.ChangeRotate, Id: 9, Key: high}, api.ErrArg},
		{"64, and not there", 4, api.Change{Kind: api.ChangeRotate, Id: 64, Key: keyOf(1)}, api.ErrArg},
	} {
		refused(t, c.what, first(c.n), c.x, c.e)
	}
	full, one := first(10), first(1)
	full.Epoch, one.Epoch = 1<<30, 1<<30
	refused(t, "the last epoch, and too many", full, api.Change{Kind: api.ChangeAdd, Id: 20, Key: keyOf(1)}, api.ErrArg)
	refused(t, "the last epoch, and there", full, api.Change{Kind: api.ChangeAdd, Id: 1, Key: keyOf(1)}, api.ErrArg)
	refused(t, "the last epoch, and only one", one, api.Change{Kind: api.ChangeRemove, Id: 1}, api.ErrArg)
	refused(t, "the last epoch, and not there", one, api.Change{Kind: api.ChangeRemove, Id: 2}, api.ErrArg)
}

// TestP8_1ApplySmall: all changes of few numbers to all configurations of few Ids.
func TestP8_1ApplySmall(t *testing.T) {
	few, numbers := []int{1, 2, 3, 62, 63}, []int{-1, 0, 1, 2, 3, 62, 63, 64}
	for set := range 1 << len(few) {
		c := api.Config{Epoch: set}
		for i, id := range few {
			if set>>i&1 == 1 {
				c.Members = append(c.Members, api.Member{Id: id, Key: keyOf(id)})
			}
		}
		for kind := -1; kind <= 6; kind++ {
			for _, id := range numbers {
				for _, other := range numbers {
					for _, height := range []int{-1, 0, 6, 7} {
						alike(t, c, api.Change{Kind: kind, Id: id, New: other, Key: api.Key{Root: ones(), Height: height}})
					}
				}
			}
		}
	}
}

// TestP8_1ApplyAny: changes one behind the other, and each answer twice.
func TestP8_1ApplyAny(t *testing.T) {
	rnd := rand.New(rand.NewSource(5))
	times := map[api.Errno]int{}
	for range 2000 {
		c := someGood(rnd, 1+rnd.Intn(10))
		if rnd.Intn(3) == 0 {
			c = someBad(rnd)
		}
		for range 20 {
			x := someChange(rnd, c)
			d, e := alike(t, c, x)
			alike(t, c, x)
			times[e]++
			if e == api.OK {
				c = d
			}
		}
	}
	for _, e := range []api.Errno{api.OK, api.ErrArg, api.ErrNone, api.ErrOther, api.ErrMany, api.ErrFew} {
		if times[e] < 50 {
			t.Errorf("error %d came %d times", e, times[e])
		}
	}
}

// TestP8_2Sets: each two sets of members that are as many as a quorum, or more, have a weak quorum in common; each set that lacks at most f members is a quorum.
func TestP8_2Sets(t *testing.T) {
	for n := 1; n <= 10; n++ {
		c := first(n)
		f, quorum, weak := config.Faults(c), config.Quorum(c), config.Weak(c)
		for one := range uint(1) << n {
			has := bits.OnesCount(one)
			if n-has <= f && has < quorum {
				t.Fatalf("of %d members %b aren't a quorum", n, one)
			}
			if has < quorum {
				continue
			}
			for other := range uint(1) << n {
				if bits.OnesCount(other) >= quorum && bits.OnesCount(one&other) < weak {
					t.Fatalf("of %d members the quorums %b and %b have less than %d in common", n, one, other, weak)
				}
			}
		}
	}
}

// TestP8_2Least: with one less than a quorum two have f in common, or fewer; one less than a weak quorum may all be wrong; f is the most of whom twice as many, and more, are left.
func TestP8_2Least(t *testing.T) {
	for n := 1; n <= 10; n++ {
		c := first(n)
		f, quorum, weak := config.Faults(c), config.Quorum(c), config.Weak(c)
		if 2*quorum-n < weak || n-f < quorum || weak-1 != f {
			t.Errorf("of %d: %d, %d, %d", n, f, quorum, weak)
		}
		if 2*(quorum-1)-n >= weak || n-f <= 2*f || n-(f+1) > 2*(f+1) {
			t.Errorf("of %d: %d, %d, %d isn't the least quorum, or the most that may be wrong", n, f, quorum, weak)
		}
	}
}

// lost: whose Ids are in a, and not in b.
func lost(a, b api.Config) []int {
	return slices.DeleteFunc(ids(a), func(id int) bool { return slices.Contains(ids(b), id) })
}

// stepped: that what a change made can be, and differs from what was ahead of it as its kind tells.
func stepped(t *testing.T, c, d api.Config, x api.Change) {
	t.Helper()
	if !modelGood(d) || !config.Good(d) || d.Epoch != c.Epoch+1 {
		t.Fatalf("%+v: epoch %d and members %v can't be behind epoch %d and members %v", x, d.Epoch, ids(d), c.Epoch, ids(c))
	}
	gone, come := lost(c, d), lost(d, c)
	goes, comes := 0, 0
	switch x.Kind {
	case api.ChangeAdd:
		comes = 1
	case api.ChangeRemove:
		goes = 1
	case api.ChangeReplace:
		goes, comes = 1, 1
	}
	if len(gone) != goes || len(come) != comes {
		t.Fatalf("%+v: %v go, %v come", x, gone, come)
	}
	for _, m := range d.Members {
		if slices.Contains(come, m.Id) || x.Kind == api.ChangeRotate && m.Id == x.Id {
			if m.Key != x.Key {
				t.Fatalf("%+v: %d has another key", x, m.Id)
			}
		} else if !slices.Contains(c.Members, m) {
			t.Fatalf("%+v: %d, who stays, has another key", x, m.Id)
		}
	}
}

// TestP8_3Steps: one change behind the other, of all kinds, from configurations of all sizes.
func TestP8_3Steps(t *testing.T) {
	rnd := rand.New(rand.NewSource(6))
	steps := map[int]int{}
	for range 2000 {
		c := someGood(rnd, 1+rnd.Intn(10))
		for range 30 {
			x := someChange(rnd, c)
			if d, e := config.Apply(c, x); e == api.OK {
				stepped(t, c, d, x)
				steps[x.Kind]++
				c = d
			} else if !zero(d) {
				t.Fatalf("%+v: error %d, and members %v", x, e, ids(d))
			}
		}
	}
	for kind := 1; kind <= 4; kind++ {
		if steps[kind] < 1000 {
			t.Errorf("%d changes of the kind %d", steps[kind], kind)
		}
	}
}

// TestP8_3EveryId: of a configuration each Id that is free may come, at every place, and each that is there may go.
func TestP8_3EveryId(t *testing.T) {
	for _, c := range []api.Config{of(0, 1), of(1, 63), of(2, 30, 31), of(3, 1, 20, 40, 63), of(1<<30-1, 2, 4, 6, 8, 10, 12, 14, 16, 18), of(9, 5, 10, 15, 20, 25, 30, 35, 40, 45, 50)} {
		for id := 1; id <= 63; id++ {
			key := api.Key{Root: rising(), Height: id % 7}
			for _, x := range []api.Change{{Kind: api.ChangeAdd, Id: id, Key: key}, {Kind: api.ChangeRemove, Id: id}, {Kind: api.ChangeRotate, Id: id, Key: key}, {Kind: api.ChangeReplace, Id: c.Members[0].Id, New: id, Key: key}, {Kind: api.ChangeReplace, Id: c.Members[len(c.Members)-1].Id, New: id, Key: key}} {
				if d, e := alike(t, c, x); e == api.OK {
					stepped(t, c, d, x)
				}
			}
		}
	}
}

// TestP8_4ThereAndBack: configurations that can be, of all sizes, and those at the limits.
func TestP8_4ThereAndBack(t *testing.T) {
	rnd := rand.New(rand.NewSource(7))
	all := []api.Config{of(0, 1), of(1<<30, 63), of(0, 1, 63), of(1<<30, 54, 55, 56, 57, 58, 59, 60, 61, 62, 63), first(10)}
	for id := 1; id <= 63; id++ {
		for height := range 7 {
			all = append(all, api.Config{Epoch: id, Members: []api.Member{{Id: id, Key: api.Key{Root: ones(), Height: height}}}})
		}
	}
	for range 5000 {
		all = append(all, someGood(rnd, 1+rnd.Intn(10)))
	}
	for _, c := range all {
		b := written(c)
		r := code.Read(b)
		if got := config.Read(r); !same(got, c) || !r.End() || !config.Good(got) || config.Digest(got) != config.Digest(c) {
			t.Fatalf("epoch %d, members %v: epoch %d, members %v", c.Epoch, ids(c), got.Epoch, ids(got))
		}
		if !bytes.Equal(b, modelBytes(c)) {
			t.Fatalf("epoch %d, members %v: written %x", c.Epoch, ids(c), b)
		}
	}
}

// TestP8_4OneForm: bytes that are read to their end are those that what was read is written as.
func TestP8_4OneForm(t *testing.T) {
	rnd := rand.New(rand.NewSource(8))
	count := 0
	for range 20000 {
		b := modelBytes(someGood(rnd, 1+rnd.Intn(3)))
		b[rnd.Intn(len(b))] ^= 1 << rnd.Intn(8)
		r := code.Read(b)
		c := config.Read(r)
		if r.End() {
			count++
			if !bytes.Equal(written(c), b) || !config.Good(c) {
				t.Fatalf("%x is written as %x", b, written(c))
			}
		}
	}
	if count < 1000 {
		t.Errorf("only %d were read", count)
	}
}

// roomy: a configuration whose list has room to spare, in which something stands, and the whole of that room.
func roomy(c api.Config) (api.Config, []api.Member) {
	all := append(slices.Clone(c.Members), make([]api.Member, 15)...)
	for i := len(c.Members); i < len(all); i++ {
		all[i] = api.Member{Id: 1000 + i, Key: api.Key{Root: ones(), Height: 99}}
	}
	c.Members = all[:len(c.Members)]
	return c, all
}

// TestP8_5NothingIsChanged: by any call, that answers an error or not, in the room to spare either.
func TestP8_5NothingIsChanged(t *testing.T) {
	rnd := rand.New(rand.NewSource(9))
	for range 2000 {
		c := someGood(rnd, 1+rnd.Intn(10))
		if rnd.Intn(3) == 0 {
			c = someBad(rnd)
		}
		c, all := roomy(c)
		before := slices.Clone(all)
		x := someChange(rnd, c)
		for _, kind := range []int{1, 2, 3, 4, 5} {
			for _, id := range append(ids(c), x.Id) {
				config.Apply(c, api.Change{Kind: kind, Id: id, New: x.New, Key: x.Key})
				config.Find(c, id)
			}
		}
		config.Write(&code.Writer{}, c)
		config.Digest(c)
		config.Good(c)
		sizes(c)
		if !slices.Equal(all, before) {
			t.Fatalf("%v became %v", before, all)
		}
	}
}

// filled writes over all of a configuration's list, spare room included.
func filled(c api.Config) {
	all := c.Members[:cap(c.Members)]
	for i := range all {
		all[i] = api.Member{Id: -8, Key: api.Key{Root: rising(), Height: -8}}
	}
}

// TestP8_5AnswersAreNew: what is written into an answer is seen in nothing else, and what is written into what was handed in isn't seen in an answer.
func TestP8_5AnswersAreNew(t *testing.T) {
	rnd := rand.New(rand.NewSource(10))
	for range 2000 {
		c, all := roomy(someGood(rnd, 1+rnd.Intn(10)))
		before := slices.Clone(all)
		x := someChange(rnd, c)
		if _, e := config.Apply(c, x); e != api.OK {
			continue
		}
		first, second := applied(t, c, x), applied(t, c, x)
		wanted := clone(first)
		filled(second)
		if !same(first, wanted) || !slices.Equal(all, before) || !same(applied(t, c, x), wanted) {
			t.Fatalf("%+v: answers share memory, or one with what was handed in", x)
		}
		filled(c)
		if !same(first, wanted) {
			t.Fatalf("%+v: what is written behind the call is seen", x)
		}
	}
}

func TestP8_5ReadConfigurationsAreNew(t *testing.T) {
	for n := 1; n <= 10; n++ {
		c := first(n)
		b := modelBytes(c)
		r := code.Read(slices.Concat(b, b))
		filled(config.Read(r))
		second, third := config.Read(r), config.Read(code.Read(b))
		filled(third)
		if !same(second, c) || !bytes.Equal(b, modelBytes(c)) {
			t.Errorf("%d members: answers share memory, or one with the bytes", n)
		}
		clear(b)
		if !same(second, c) {
			t.Errorf("%d members: an answer shares memory with the bytes", n)
		}
	}
}

func TestP8_5NothingIsKept(t *testing.T) {
	c, _ := roomy(first(4))
	w := &code.Writer{}
	config.Write(w, c)
	m, _, _ := config.Find(c, 2)
	d := config.Digest(c)
	filled(c)
	if !bytes.Equal(w.Bytes(), modelBytes(first(4))) || m != first(4).Members[1] || d != modelDigest(first(4)) {
		t.Error("what is written behind a call is seen")
	}
	if config.Good(c) || config.Digest(c) != modelDigest(c) || !bytes.Equal(written(c), modelBytes(c)) {
		t.Error("what was handed in is kept")
	}
	m.Key.Root[0] ^= 1
	if again, _, _ := config.Find(first(4), 2); again == m {
		t.Error("a member is the configuration's own")
	}
}
