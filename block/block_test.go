package block_test

import (
	"encoding/hex"
	"math"
	"math/rand"
	"slices"
	"strings"
	"testing"

	"wapentake/api"
	"wapentake/block"
	"wapentake/code"
)

func written(b api.Block) string {
	var w code.Writer
	block.Write(&w, b)
	return string(w.Bytes())
}

// reader: one of the bytes that a text has.
func reader(b string) *code.Reader { return code.Read([]byte(b)) }

// can: that a block can be, and is read as it was written.
func can(t *testing.T, what string, b api.Block) {
	t.Helper()
	if !block.Good(b) || !modelGood(b) {
		t.Errorf("%s: %s can't be", what, short(b))
	}
	reads(t, what, modelBytes(b), b)
}

// cant: that a block can't be, nor is read.
func cant(t *testing.T, what string, b api.Block) {
	t.Helper()
	if block.Good(b) || modelGood(b) {
		t.Errorf("%s: %s can be", what, short(b))
	}
	none(t, what, modelBytes(b))
}

// judged: that a block can be, or can't.
func judged(t *testing.T, what string, b api.Block, is bool) {
	t.Helper()
	if is {
		can(t, what, b)
	} else {
		cant(t, what, b)
	}
}

// reads: that bytes are just those of a block.
func reads(t *testing.T, what, all string, wanted api.Block) {
	t.Helper()
	r := reader(all)
	if b := block.Read(r); !same(b, wanted) || !r.End() {
		t.Errorf("%s: %s is read as %s, end %t", what, short(wanted), short(b), r.End())
	}
}

// none: that no block is at the beginning of some bytes.
func none(t *testing.T, what, all string) {
	t.Helper()
	noneIn(t, what, reader(all))
}

// noneIn: that a reader has no block, and a fault.
func noneIn(t *testing.T, what string, r *code.Reader) {
	t.Helper()
	if b := block.Read(r); !same(b, api.Block{}) || r.Good() || r.End() {
		t.Errorf("%s: %s, good %t", what, short(b), r.Good())
	}
}

// TestP12_1Example is the chapter's.
func TestP12_1Example(t *testing.T) {
	b := full(0)
	if n := len(written(b)); n != 120 {
		t.Errorf("%d bytes", n)
	}
	can(t, "a block without requests", b)
	can(t, "the least block", api.Block{Height: 1})
}

// TestP12_1Epochs: from 0 to 2^30, with requests and without.
func TestP12_1Epochs(t *testing.T) {
	for _, n := range append(odd(), 3, 1<<29, 1<<30+2, 1<<62+1) {
		for _, count := range []int{0, 1, 8} {
			b := full(count)
			b.Epoch = n
			judged(t, "an epoch", b, 0 <= n && n <= 1<<30)
		}
	}
}

// TestP12_1Heights: from 1 to MaxChain, likewise.
func TestP12_1Heights(t *testing.T) {
	for _, n := range append(odd(), 3, 512, 1026, 1<<10+1<<32) {
		for _, count := range []int{0, 1, 8} {
			b := full(count)
			b.Height = n
			judged(t, "a height", b, 1 <= n && n <= 1024)
		}
	}
	if api.MaxChain != 1024 || api.MaxBatch != 8 {
		t.Error("other limits")
	}
}

// TestP12_1NumbersApart: limits are each number's own.
func TestP12_1NumbersApart(t *testing.T) {
	for _, c := range []struct {
		epoch, height int
		is            bool
	}{
		{0, 1, true}, {1 << 30, 1024, true}, {0, 1024, true}, {1 << 30, 1, true},
		{0, 0, false}, {1, 0, false}, {1 << 30, 0, false}, {1 << 30, 1025, false}, {-1, 1, false}, {-1, 1024, false}, {1<<30 + 1, 1, false}, {1<<30 + 1, 1024, false}, {1025, 1025, false}, {0, 1 << 30, false}, {-1, -1, false}, {math.MinInt, math.MaxInt, false},
	} {
		judged(t, "two numbers", api.Block{Epoch: c.epoch, Height: c.height}, c.is)
	}
}

// TestP12_1Batch: at most MaxBatch requests.
func TestP12_1Batch(t *testing.T) {
	for n := range 40 {
		judged(t, "so many requests", full(n), n <= 8)
		same := api.Block{Height: 1}
		for range n {
			same.Requests = append(same.Requests, get(1, 1, "k"))
		}
		judged(t, "so often one request", same, n <= 8)
	}
	for _, n := range []int{256, 264, 1 << 16, 1<<16 + 1} {
		b := api.Block{Height: 1, Requests: slices.Repeat([]api.Request{get(1, 1, "k")}, n)}
		cant(t, "far too many requests", b)
	}
}

// TestP12_1BadRequests: one that can't be, at any place among any number of others.
func TestP12_1BadRequests(t *testing.T) {
	for name, q := range bads() {
		for n := 1; n <= 9; n++ {
			for at := range n {
				b := full(n)
				b.Requests[at] = q
				cant(t, name, b)
			}
			cant(t, name+" alone", api.Block{Height: 1, Requests: slices.Repeat([]api.Request{q}, n)})
		}
	}
}

// TestP12_1RequestLimits: those at their limits can be among others.
func TestP12_1RequestLimits(t *testing.T) {
	most := api.Op{Kind: api.OpChange, Key: long(1024), Val: long(1024), Old: long(1024), Change: api.Change{Kind: math.MinInt, Id: -1, New: math.MaxInt, Key: api.Key{Root: ones(), Height: 99}}}
	all := []api.Request{get(1, 1, ""), get(64, 1<<40, ""), {Client: 64, Num: 1 << 40, Op: most}, {Client: 1, Num: 1, Op: most}, {Client: 1, Num: 1, Op: api.Op{Kind: api.OpChange}}}
	for _, q := range all {
		for n := 1; n <= 8; n++ {
			for at := range n {
				b := full(n)
				b.Requests[at] = q
				can(t, "a request at its limits", b)
			}
			can(t, "nothing else", api.Block{Epoch: 1 << 30, Height: 1024, Requests: slices.Repeat([]api.Request{q}, n)})
		}
	}
	can(t, "any order", api.Block{Height: 1, Requests: []api.Request{get(9, 5, "b"), get(9, 4, "a"), get(2, 5, "c"), get(9, 5, "b")}})
}

// TestP12_1AnyDigests: nothing is asked of them.
func TestP12_1AnyDigests(t *testing.T) {
	for _, d := range []api.Digest{{}, {1}, {31: 1}, ones(), rising(0)} {
		can(t, "three alike", api.Block{Height: 1, Prev: d, State: d, Next: d})
		can(t, "what is ahead", api.Block{Height: 2, Prev: d})
		can(t, "the registry", api.Block{Height: 2, State: d})
		can(t, "what is behind", api.Block{Height: 2, Next: d})
	}
}

func TestP12_1GoodOfAny(t *testing.T) {
	rnd := rand.New(rand.NewSource(1))
	times := map[bool]int{}
	for range 10000 {
		b := someBad(rnd)
		if block.Good(b) != modelGood(b) {
			t.Fatalf("%s can be: %t", short(b), block.Good(b))
		}
		times[modelGood(b)]++
	}
	if times[true] < 1000 || times[false] < 1000 {
		t.Errorf("both kinds are wanted among them: %v", times)
	}
}

// known are blocks with what another program than Go's made of the document's words.
func known() []struct {
	b             api.Block
	size          int
	bytes, digest string
} {
	put := api.Request{Client: 1, Num: 1, Op: api.Op{Kind: api.OpPut, Key: "k", Val: "v"}}
	most := api.Request{Client: 64, Num: 1 << 40, Op: api.Op{Kind: api.OpChange, Key: long(1024), Val: long(1024), Old: long(1024), Change: api.Change{Kind: 3, Id: 63, New: 62, Key: api.Key{Root: ones(), Height: 6}}}}
	great := api.Block{Epoch: 1 << 30, Height: 1024, Prev: ones(), State: ones(), Next: ones(), Requests: slices.Repeat([]api.Request{most}, 8)}
	noughts := strings.Repeat("00", 31)
	return []struct {
		b             api.Block
		size          int
		bytes, digest string
	}{
		{api.Block{}, 120, strings.Repeat("00", 120), "017653f778e30bfc26b063622d32727d92d5979402f2d7294fc06325a1575cbd"},
		{api.Block{Height: 1}, 120, "00000000000000000000000000000001" + strings.Repeat("00", 104), "f131d3573fc908c0507e57f604875d67ddd39f5a8cf39d87a359c9637d598a20"},
		{api.Block{Epoch: 1 << 30, Height: 1024, Prev: rising(0), State: ones(), Next: rising(100)}, 120,
			"00000000400000000000000000000400" + "000102030405060708090a0b0c0d0e0f101112131415161718191a1b1c1d1e1f" + strings.Repeat("ff", 32) +
				"6465666768696a6b6c6d6e6f707172737475767778797a7b7c7d7e7f80818283" + "0000000000000000",
			"4da0a963091630d7157018ceeb910c11db4f60b750649fdbbc243be31afff761"},
		{api.Block{Epoch: 2, Height: 7, Prev: api.Digest{1}, State: api.Digest{2}, Next: api.Digest{3}, Requests: []api.Request{put}}, 222,
			"00000000000000020000000000000007" + "01" + noughts + "02" + noughts + "03" + noughts + "0000000000000001" +
				"000000000000000100000000000000010000000000000002" + "000000016b000000017600000000" + strings.Repeat("00", 64),
			"0fb72d4cb319a4e16602c9c88a2575ef53ff623b62fdd06206e00ac33da95db9"},
		{api.Block{Epoch: -1, Height: 1025, Prev: ones(), Next: ones(), Requests: make([]api.Request, 1)}, 220,
			"ffffffffffffffff0000000000000401" + strings.Repeat("ff", 32) + strings.Repeat("00", 32) + strings.Repeat("ff", 32) + "0000000000000001" + strings.Repeat("00", 100),
			"72eebd3318dc35ae21696258f85b6e5766cc9be61c614f4b95a580779ed82726"},
		{full(1), 241, "", "d8cdd588453d56727ed1d12524c9c555357c1ede506a5deff3f13781024ae1fa"},
		{full(8), 1088, "", "46e8d01824ba084823f99461d6b789d074ed52128b410ad13106fcb45ba5b333"},
		{full(9), 1209, "", "06543c4192b1e8d32d11b45aa54cc97fd287b1dc36866f0cdc3162010c87531a"},
		{great, 25496, "", "6f0db024e3ca55781bd3f076ba2506b7ced357b6ac5aa43302cca3f1a6b61a63"},
	}
}

func TestP12_1Known(t *testing.T) {
	for i, k := range known() {
		if got := hex.EncodeToString([]byte(written(k.b))); k.bytes != "" && got != k.bytes {
			t.Errorf("%d: the bytes %s, not %s", i, got, k.bytes)
		}
		if n := len(written(k.b)); n != k.size {
			t.Errorf("%d: %d bytes, not %d", i, n, k.size)
		}
		if d := block.Digest(k.b); hex.EncodeToString(d[:]) != k.digest {
			t.Errorf("%d: the digest %x, not %s", i, d, k.digest)
		}
	}
}

// TestP12_1WriteAndDigest: of any block, be it one that can be or not; bytes go behind what was written.
func TestP12_1WriteAndDigest(t *testing.T) {
	rnd := rand.New(rand.NewSource(2))
	for range 1000 {
		a, b := someBad(rnd), someBad(rnd)
		w := &code.Writer{}
		w.Text("ahead")
		block.Write(w, a)
		block.Write(w, b)
		if string(w.Bytes()) != texts("ahead")+modelBytes(a)+modelBytes(b) {
			t.Fatalf("%s and %s: %x", short(a), short(b), w.Bytes())
		}
		if block.Digest(a) != modelDigest(a) {
			t.Fatalf("%s: the digest %x", short(a), block.Digest(a))
		}
	}
}

// changed are blocks of which each differs from full(3), and from all others, in one thing.
func changed() []api.Block {
	var all []api.Block
	for _, change := range []func(b *api.Block){
		func(b *api.Block) { b.Epoch++ },
		func(b *api.Block) { b.Height++ },
		func(b *api.Block) { b.Epoch, b.Height = b.Height, b.Epoch },
		func(b *api.Block) { b.Prev[0] ^= 1 },
		func(b *api.Block) { b.Prev[31] ^= 128 },
		func(b *api.Block) { b.State[0] ^= 1 },
		func(b *api.Block) { b.State[31] ^= 128 },
		func(b *api.Block) { b.Next[0] ^= 1 },
		func(b *api.Block) { b.Next[31] ^= 128 },
		func(b *api.Block) { b.Prev, b.State = b.State, b.Prev },
		func(b *api.Block) { b.State, b.Next = b.Next, b.State },
		func(b *api.Block) { b.Requests = nil },
		func(b *api.Block) { b.Requests = b.Requests[1:] },
		func(b *api.Block) { b.Requests = b.Requests[:2] },
		func(b *api.Block) { b.Requests = append(b.Requests, b.Requests[2]) },
		func(b *api.Block) { b.Requests[0], b.Requests[1] = b.Requests[1], b.Requests[0] },
		func(b *api.Block) { b.Requests[0].Client++ },
		func(b *api.Block) { b.Requests[1].Num++ },
		func(b *api.Block) { b.Requests[1].Op.Kind++ },
		func(b *api.Block) { b.Requests[2].Op.Key += "x" },
		func(b *api.Block) { b.Requests[2].Op.Val += "x" },
		func(b *api.Block) { b.Requests[2].Op.Old += "x" },
		func(b *api.Block) { b.Requests[0].Op.Change.Kind++ },
		func(b *api.Block) { b.Requests[1].Op.Change.Id++ },
		func(b *api.Block) { b.Requests[2].Op.Change.New++ },
		func(b *api.Block) { b.Requests[2].Op.Change.Key.Height++ },
		func(b *api.Block) { b.Requests[2].Op.Change.Key.Root[31] ^= 1 },
	} {
		b := full(3)
		change(&b)
		all = append(all, b)
	}
	return append(all, full(3), api.Block{})
}

// TestP12_1DigestsApart: what differs in one thing has another digest, and other bytes.
func TestP12_1DigestsApart(t *testing.T) {
	digests, bytes := map[api.Digest]int{}, map[string]int{}
	for i, b := range changed() {
		if k, is := digests[block.Digest(b)]; is {
			t.Errorf("%d has the digest of %d", i, k)
		}
		if k, is := bytes[written(b)]; is {
			t.Errorf("%d has the bytes of %d", i, k)
		}
		digests[block.Digest(b)], bytes[written(b)] = i, i
	}
}

func TestP12_1NilWriter(t *testing.T) {
	for _, b := range changed() {
		block.Write(nil, b)
	}
	block.Write(nil, full(9))
}

func TestP12_1NilReader(t *testing.T) {
	noneIn(t, "a nil reader", nil)
}

// TestP12_1ReadBehindFault: though a block's bytes stood there.
func TestP12_1ReadBehindFault(t *testing.T) {
	for _, n := range []int{0, 1, 8} {
		b := modelBytes(full(n))
		r := reader(b + b)
		r.In(math.MaxInt, math.MaxInt)
		noneIn(t, "behind a fault", r)
		noneIn(t, "once more", r)
		r = reader(num(1) + b)
		if r.Num() != 1 || r.Text(0) != "" {
			t.Error("a number and a fault are wanted")
		}
		noneIn(t, "behind another fault", r)
	}
	bad := full(2)
	bad.Requests[1].Client = 65
	r := reader(modelBytes(bad) + modelBytes(full(2)))
	noneIn(t, "a block that can't be", r)
	noneIn(t, "the block behind it", r)
}

// TestP12_1ReadCut: bytes of which the last ones are missing are none's.
func TestP12_1ReadCut(t *testing.T) {
	great := api.Block{Height: 1024, Requests: []api.Request{{Client: 64, Num: 1, Op: api.Op{Kind: api.OpSwap, Key: long(300), Old: long(5)}}}}
	for _, b := range []api.Block{full(0), full(1), full(2), full(8), great} {
		all := modelBytes(b)
		for size := range len(all) {
			none(t, "cut bytes", all[:size])
		}
	}
}

// TestP12_1ReadLeft: what is behind a block's bytes is left, be it another one, or one byte.
func TestP12_1ReadLeft(t *testing.T) {
	for n := range 9 {
		b := full(n)
		for _, behind := range []string{"\x00", "\xff", "behind", strings.Repeat("\x00", 200), requestBytes(get(1, 1, "k")), modelBytes(b)} {
			r := reader(modelBytes(b) + behind)
			got := block.Read(r)
			if !same(got, b) || !r.Good() || r.End() {
				t.Errorf("%s is read as %s, good %t, end %t", short(b), short(got), r.Good(), r.End())
			}
			for range len(behind) / 8 {
				r.Num()
			}
			if r.End() != (len(behind)%8 == 0) || !r.Good() {
				t.Errorf("behind %d requests: not %d bytes are left", n, len(behind))
			}
		}
	}
}

// TestP12_1ReadOfNone: bytes of other things.
func TestP12_1ReadOfNone(t *testing.T) {
	for _, b := range []string{"", "\x01", "block", strings.Repeat("\x00", 5000), strings.Repeat("\x01", 5000), strings.Repeat("\xff", 5000), strings.Repeat("abc", 2000)} {
		none(t, "other bytes", b)
	}
	none(t, "a request's bytes", requestBytes(full(1).Requests[0]))
	none(t, "a block behind its mark", "block"+modelBytes(full(1)))
}

// TestP12_1ReadCount: how many requests there are is what is told, be there more of them or fewer.
func TestP12_1ReadCount(t *testing.T) {
	b := api.Block{Epoch: 1, Height: 2, Prev: rising(3)}
	for range 20 {
		b.Requests = append(b.Requests, get(3, 4, "k"))
	}
	size := len(requestBytes(b.Requests[0]))
	for _, n := range append(odd(), -2, -8, 3, 4, 5, 10, 16, 20, 1<<8+8, 1<<16+1) {
		all := told(b, n)
		if n < 0 || n > 8 {
			none(t, "so many requests", all)
			none(t, "so many, and none there", all[:120])
			continue
		}
		wanted := clone(b)
		wanted.Requests = wanted.Requests[:n]
		r := reader(all)
		if got := block.Read(r); !same(got, wanted) || !r.Good() || r.End() {
			t.Errorf("%d requests are read as %s", n, short(got))
		}
		reads(t, "just so many", all[:120+n*size], wanted)
		if n > 0 {
			none(t, "one fewer", all[:120+(n-1)*size])
		}
	}
}

// TestP12_1ReadAny: bytes of any block, some of them turned, with others behind: just the model's, and what is behind is left.
func TestP12_1ReadAny(t *testing.T) {
	rnd := rand.New(rand.NewSource(3))
	times := map[bool]int{}
	for range 10000 {
		all := turned(rnd, modelBytes(someBad(rnd))) + "behind"[:rnd.Intn(7)]
		r := reader(all)
		b := block.Read(r)
		wanted, size, is := modelRead(all)
		if !same(b, wanted) || r.Good() != is || r.End() != (is && size == len(all)) {
			t.Fatalf("%x: %s, good %t, end %t", all, short(b), r.Good(), r.End())
		}
		times[is]++
	}
	if times[true] < 1000 || times[false] < 1000 {
		t.Errorf("both kinds are wanted among them: %v", times)
	}
}

// turned: bytes of which some are turned, mostly where numbers and digests stand.
func turned(rnd *rand.Rand, all string) string {
	b := []byte(all)
	for range rnd.Intn(3) {
		at := rnd.Intn(len(b))
		if rnd.Intn(2) == 0 {
			at = rnd.Intn(120)
		}
		b[at] ^= 1 << rnd.Intn(8)
	}
	return string(b)
}

// TestP12_1ReadTakesItsOwn: what stands ahead and behind is another one's.
func TestP12_1ReadTakesItsOwn(t *testing.T) {
	for n := range 9 {
		a, b := full(n), full(8-n)
		w := &code.Writer{}
		w.Num(-1)
		block.Write(w, a)
		w.Text("between")
		block.Write(w, b)
		w.Digest(ones())
		r := code.Read(w.Bytes())
		if r.Num() != -1 || !same(block.Read(r), a) || r.Text(7) != "between" || !same(block.Read(r), b) || r.End() || r.Digest() != ones() || !r.End() {
			t.Errorf("of %d requests more or less than a block's bytes is taken", n)
		}
	}
}

// TestP12_1FirstKnown holds what is ahead of the first block against what another program made of the document's words.
func TestP12_1FirstKnown(t *testing.T) {
	member := func(id, height int, root api.Digest) api.Member {
		return api.Member{Id: id, Key: api.Key{Root: root, Height: height}}
	}
	four := []api.Member{member(1, 3, rising(0)), member(2, 0, ones()), member(40, 6, api.Digest{}), member(63, 1, rising(0))}
	for i, k := range []struct {
		c      api.Config
		digest string
	}{
		{api.Config{}, "59f2546178107f5aca0857be5b2e167b5e144e5d6c114f301d2f1010f35740c8"},
		{api.Config{Members: []api.Member{}}, "59f2546178107f5aca0857be5b2e167b5e144e5d6c114f301d2f1010f35740c8"},
		{api.Config{Members: []api.Member{{Id: 1}}}, "bfd70fd80e9949142a08a6e2e91914e4350877aea5e754bdacbcea4fa960814a"},
		{api.Config{Epoch: 1}, "979b4735648cb50f92fdda78315cbfce94bd0aa424c9e2e1de0c89eab5b6eed7"},
		{api.Config{Epoch: 258, Members: four}, "70ff0bdd6357b65581707ab8295b22e325693159e11cd59655bd2000a49630cd"},
		{api.Config{Epoch: -1, Members: []api.Member{member(64, -1, ones()), member(-5, 7, rising(0))}}, "b695564e138d841047a0a631dddbed858e7237d9b2cf0f42b3bd1f1e26f624a9"},
	} {
		if d := block.First(k.c); hex.EncodeToString(d[:]) != k.digest {
			t.Errorf("%d: %x, not %s", i, d, k.digest)
		}
	}
}

// TestP12_1FirstApart: configurations that differ in one thing have other ones ahead of their first blocks.
func TestP12_1FirstApart(t *testing.T) {
	base := func() api.Config {
		return api.Config{Epoch: 5, Members: []api.Member{{Id: 1, Key: api.Key{Root: rising(1), Height: 2}}, {Id: 2, Key: api.Key{Root: rising(2), Height: 3}}, {Id: 3}}}
	}
	all := []api.Config{{}, {Epoch: 1}, {Epoch: 2}, base()}
	for _, change := range []func(c *api.Config){
		func(c *api.Config) { c.Epoch++ },
		func(c *api.Config) { c.Members = c.Members[:2] },
		func(c *api.Config) { c.Members = c.Members[1:] },
		func(c *api.Config) { c.Members = append(c.Members, api.Member{Id: 4}) },
		func(c *api.Config) { c.Members[0], c.Members[1] = c.Members[1], c.Members[0] },
		func(c *api.Config) { c.Members[2].Id++ },
		func(c *api.Config) { c.Members[1].Key.Height++ },
		func(c *api.Config) { c.Members[0].Key.Root[0] ^= 1 },
		func(c *api.Config) { c.Members[2].Key.Root[31] ^= 128 },
	} {
		c := base()
		change(&c)
		all = append(all, c)
	}
	places := map[api.Digest]int{}
	for i, c := range all {
		if k, is := places[block.First(c)]; is {
			t.Errorf("%d has what %d has", i, k)
		}
		places[block.First(c)] = i
	}
}

func TestP12_1FirstOfAny(t *testing.T) {
	rnd := rand.New(rand.NewSource(4))
	for range 1000 {
		c := someConfig(rnd)
		if d := block.First(c); d != modelFirst(c) || d != block.First(c) {
			t.Fatalf("%+v: %x", c, d)
		}
	}
}

// TestP12_1Follows: just that epoch, height, and digests of what is ahead; nothing else is asked.
func TestP12_1Follows(t *testing.T) {
	for n := range 9 {
		b := full(n)
		if !block.Follows(b, 5, 258, rising(1), rising(50)) {
			t.Errorf("%s doesn't follow", short(b))
		}
		b.Next = api.Digest{}
		if !block.Follows(b, 5, 258, rising(1), rising(50)) {
			t.Errorf("%s doesn't follow", short(b))
		}
	}
	if !block.Follows(api.Block{Height: 1}, 0, 1, api.Digest{}, api.Digest{}) {
		t.Error("the least block doesn't follow")
	}
	if !block.Follows(api.Block{Epoch: 1 << 30, Height: 1024, Prev: ones(), State: ones()}, 1<<30, 1024, ones(), ones()) {
		t.Error("the last block doesn't follow")
	}
}

// TestP12_1FollowsOff: each thing alone, by any number, or any bit.
func TestP12_1FollowsOff(t *testing.T) {
	b := full(2)
	for _, n := range append(odd(), 4, 5, 6, 258, 259, -5, 5+1<<32, 258+1<<32) {
		if block.Follows(b, n, b.Height, b.Prev, b.State) != (n == 5) {
			t.Errorf("the epoch %d", n)
		}
		if block.Follows(b, b.Epoch, n, b.Prev, b.State) != (n == 258) {
			t.Errorf("the height %d", n)
		}
	}
	for bit := range 256 {
		prev, state := b.Prev, b.State
		prev[bit/8] ^= 1 << (bit % 8)
		state[bit/8] ^= 1 << (bit % 8)
		if block.Follows(b, b.Epoch, b.Height, prev, b.State) || block.Follows(b, b.Epoch, b.Height, b.Prev, state) {
			t.Errorf("the bit %d", bit)
		}
	}
	none := api.Digest{}
	if block.Follows(b, b.Height, b.Epoch, b.Prev, b.State) || block.Follows(b, b.Epoch, b.Height, b.State, b.Prev) || block.Follows(b, b.Epoch, b.Height, b.Prev, b.Next) || block.Follows(b, b.Epoch, b.Height, none, none) {
		t.Error("one thing in another one's place")
	}
}

// TestP12_1FollowsOfNone: a block that can't be follows nothing, though all that it has is asked for.
func TestP12_1FollowsOfNone(t *testing.T) {
	all := []api.Block{{}, full(9), full(20)}
	for _, n := range odd() {
		epoch, height := full(1), full(1)
		epoch.Epoch, height.Height = n, n
		all = append(all, epoch, height)
	}
	for _, q := range bads() {
		b := full(8)
		b.Requests[7] = q
		all = append(all, b)
	}
	for _, b := range all {
		if block.Follows(b, b.Epoch, b.Height, b.Prev, b.State) != modelGood(b) {
			t.Errorf("%s follows: %t", short(b), !modelGood(b))
		}
	}
}

func TestP12_1FollowsOfAny(t *testing.T) {
	rnd := rand.New(rand.NewSource(5))
	times := map[bool]int{}
	for range 5000 {
		b := someBad(rnd)
		wanted := clone(b)
		switch rnd.Intn(8) {
		case 0:
			wanted.Epoch = someOdd(rnd)
		case 1:
			wanted.Height = someOdd(rnd)
		case 2:
			wanted.Prev[rnd.Intn(32)] ^= 1 << rnd.Intn(8)
		case 3:
			wanted.State[rnd.Intn(32)] ^= 1 << rnd.Intn(8)
		}
		is := modelFollows(b, wanted.Epoch, wanted.Height, wanted.Prev, wanted.State)
		if block.Follows(b, wanted.Epoch, wanted.Height, wanted.Prev, wanted.State) != is {
			t.Fatalf("%s follows: %t", short(b), !is)
		}
		times[is]++
	}
	if times[true] < 500 || times[false] < 500 {
		t.Errorf("both kinds are wanted among them: %v", times)
	}
}

// TestP12_2ThereAndBack: blocks that can be, at all limits, and many others.
func TestP12_2ThereAndBack(t *testing.T) {
	var all []api.Block
	for n := range 9 {
		for _, epoch := range []int{0, 1, 258, 1<<30 - 1, 1 << 30} {
			for _, height := range []int{1, 2, 255, 256, 1023, 1024} {
				b := full(n)
				b.Epoch, b.Height = epoch, height
				all = append(all, b)
			}
		}
	}
	rnd := rand.New(rand.NewSource(6))
	for range 2000 {
		all = append(all, someGood(rnd, rnd.Intn(9)))
	}
	for _, b := range all {
		r := reader(written(b))
		if got := block.Read(r); !same(got, b) || !r.End() || !block.Good(got) || block.Digest(got) != block.Digest(b) {
			t.Fatalf("%s is read as %s", short(b), short(got))
		}
	}
}

// TestP12_2NotBack: a block that can't be isn't read, nor what stands in it.
func TestP12_2NotBack(t *testing.T) {
	rnd := rand.New(rand.NewSource(7))
	count := 0
	for range 5000 {
		if b := someBad(rnd); !modelGood(b) {
			none(t, "of one that can't be", written(b))
			none(t, "with others behind", written(b)+written(full(8)))
			count++
		}
	}
	if count < 500 {
		t.Errorf("only %d couldn't be", count)
	}
}

// TestP12_2OneForm: bytes that are read to their end are those that what was read is written as.
func TestP12_2OneForm(t *testing.T) {
	rnd := rand.New(rand.NewSource(8))
	count := 0
	for range 5000 {
		all := turned(rnd, written(someGood(rnd, rnd.Intn(9))))
		r := reader(all)
		if b := block.Read(r); r.End() {
			count++
			if written(b) != all || !block.Good(b) {
				t.Fatalf("%x is written as %x", all, written(b))
			}
		}
	}
	if count < 1000 {
		t.Errorf("only %d were read", count)
	}
}

// roomy: a block whose list has room to spare, in which something stands, and the whole of that room.
func roomy(b api.Block) (api.Block, []api.Request) {
	all := append(slices.Clone(b.Requests), get(1, 2, "spare"), api.Request{}, get(65, 3, "room"))
	b.Requests = all[:len(b.Requests)]
	return b, all
}

// TestP12_3NothingIsChanged: by any call, in the room to spare either.
func TestP12_3NothingIsChanged(t *testing.T) {
	rnd := rand.New(rand.NewSource(9))
	for range 1000 {
		b, requests := roomy(someBad(rnd))
		c := someConfig(rnd)
		members := append(c.Members, api.Member{Id: 7}, api.Member{Id: -7})
		c.Members = members[:len(c.Members)]
		bytes := []byte(modelBytes(b) + "spare room")
		short := bytes[: len(bytes)-10 : len(bytes)]
		before, ahead, kept := slices.Clone(requests), slices.Clone(members), string(bytes)
		block.Good(b)
		block.Write(&code.Writer{}, b)
		block.Digest(b)
		block.Follows(b, b.Epoch, b.Height, b.Prev, b.State)
		block.First(c)
		block.Read(code.Read(short))
		if !slices.Equal(requests, before) || !slices.Equal(members, ahead) || string(bytes) != kept {
			t.Fatalf("what was handed in became another thing")
		}
	}
}

// scrawl writes over all of a block's list, spare room included.
func scrawl(b api.Block) {
	all := b.Requests[:cap(b.Requests)]
	for i := range all {
		all[i] = get(99, -i, "scrawled")
	}
}

// TestP12_3NothingIsKept: what is written into a list behind a call isn't seen.
func TestP12_3NothingIsKept(t *testing.T) {
	for n := range 10 {
		b, _ := roomy(full(n))
		w := &code.Writer{}
		block.Write(w, b)
		was, follows, digest := block.Good(b), block.Follows(b, b.Epoch, b.Height, b.Prev, b.State), block.Digest(b)
		scrawl(b)
		if string(w.Bytes()) != modelBytes(full(n)) {
			t.Errorf("%d requests: what is written behind a call is seen", n)
		}
		if was != (n <= 8) || follows != was || digest != modelDigest(full(n)) {
			t.Errorf("%d requests: other answers", n)
		}
		if block.Good(b) != (n == 0) || block.Follows(b, b.Epoch, b.Height, b.Prev, b.State) != (n == 0) || block.Digest(b) != modelDigest(b) || written(b) != modelBytes(b) {
			t.Errorf("%d requests: what was handed in is kept", n)
		}
	}
	c := api.Config{Members: []api.Member{{Id: 1}, {Id: 2}}}
	first := block.First(c)
	c.Members[1].Id = 3
	if block.First(c) == first || block.First(c) != modelFirst(c) {
		t.Error("a configuration that was handed in is kept")
	}
}

// TestP12_3AnswersAreNew: what is written into an answer is seen in nothing else, and what is written into the bytes isn't seen in an answer.
func TestP12_3AnswersAreNew(t *testing.T) {
	for n := range 9 {
		wanted := full(n)
		all := modelBytes(wanted)
		bytes := []byte(all + all)
		r := code.Read(bytes)
		first := block.Read(r)
		second, third := block.Read(r), block.Read(code.Read(bytes))
		scrawl(first)
		if !same(second, wanted) || !same(third, wanted) || string(bytes) != all+all {
			t.Errorf("%d requests: answers share memory, or one with the bytes", n)
		}
		scrawl(third)
		clear(bytes)
		if !same(second, wanted) {
			t.Errorf("%d requests: an answer shares memory with another one, or the bytes", n)
		}
	}
}

// TestP12_3ReadOwnsItsBytes: what is written into the bytes ahead of Read, but behind the reader's making, isn't seen either.
func TestP12_3ReadOwnsItsBytes(t *testing.T) {
	bytes := []byte(modelBytes(full(8)))
	r := code.Read(bytes)
	clear(bytes)
	if b := block.Read(r); !same(b, full(8)) || !r.End() {
		t.Errorf("read as %s", short(b))
	}
}
