package request_test

import (
	"bytes"
	"encoding/hex"
	"math"
	"math/rand"
	"slices"
	"strings"
	"testing"

	"wapentake/api"
	"wapentake/code"
	"wapentake/request"
)

func expect(t *testing.T, what string, got []byte, wanted string) {
	t.Helper()
	if hex.EncodeToString(got) != wanted {
		t.Errorf("%s: %x, not %s", what, got, wanted)
	}
}

func written(q api.Request) []byte {
	var w code.Writer
	request.Write(&w, q)
	return w.Bytes()
}

func writtenReply(a api.Reply) []byte {
	var w code.Writer
	request.WriteReply(&w, a)
	return w.Bytes()
}

// told: a request in few words.
func told(q api.Request) []int {
	x := q.Op.Change
	return []int{q.Client, q.Num, q.Op.Kind, len(q.Op.Key), len(q.Op.Val), len(q.Op.Old), x.Kind, x.Id, x.New, x.Key.Height}
}

// toldReply: a reply in few words.
func toldReply(a api.Reply) []int {
	all := []int{a.Client, a.Num, int(a.Code), len(a.Vals)}
	for _, v := range a.Vals {
		all = append(all, len(v))
	}
	return all
}

// same: that two replies are the same, told by the model, and by the program as well.
func same(t *testing.T, a, b api.Reply) bool {
	t.Helper()
	is := modelSame(a, b)
	if request.Same(a, b) != is || request.Same(b, a) != is {
		t.Errorf("%v and %v are the same: %t", toldReply(a), toldReply(b), !is)
	}
	return is
}

// TestP9_1Example is the chapter's.
func TestP9_1Example(t *testing.T) {
	put := api.Request{Client: 1, Num: 1, Op: api.Op{Kind: api.OpPut, Key: "k", Val: "v"}}
	if n := len(written(put)); n != 24+14+64 || !request.Good(put) {
		t.Errorf("%d bytes", n)
	}
}

// TestP9_1GoodLimits: each number and each text at its limits, and beyond them.
func TestP9_1GoodLimits(t *testing.T) {
	for _, n := range append(odd(), 3, 4, 5, 9, 32) {
		q := full()
		q.Client = n
		if got := request.Good(q); got != (1 <= n && n <= 64) {
			t.Errorf("the client %d can be: %t", n, got)
		}
		q = full()
		q.Num = n
		if got := request.Good(q); got != (1 <= n && n <= 1<<40) {
			t.Errorf("the number %d can be: %t", n, got)
		}
		q = full()
		q.Op.Kind = n
		if got := request.Good(q); got != (1 <= n && n <= 7) {
			t.Errorf("the kind %d can be: %t", n, got)
		}
	}
	for _, n := range []int{0, 1, 255, 256, 1023, 1024, 1025, 2048, 1 << 16, 1<<16 + 1} {
		for kind := api.OpGet; kind <= api.OpChange; kind++ {
			for place, q := range withText(kind, long(n)) {
				if got := request.Good(q); got != (n <= 1024) {
					t.Errorf("kind %d, %d bytes at %d can be: %t", kind, n, place, got)
				}
			}
		}
	}
}

// withText: requests of a kind with a text as the key, the value, and the old one.
func withText(kind int, s string) [3]api.Request {
	q := full()
	q.Op.Kind = kind
	all := [3]api.Request{q, q, q}
	all[0].Op.Key, all[1].Op.Val, all[2].Op.Old = s, s, s
	return all
}

// TestP9_1GoodCountsBytes: a text's bytes are counted, not its runes, and may be any.
func TestP9_1GoodCountsBytes(t *testing.T) {
	for _, c := range []struct {
		text string
		good bool
	}{
		{strings.Repeat("\u00e4", 512), true},
		{strings.Repeat("\u00e4", 513), false},
		{strings.Repeat("\U0001f600", 256), true},
		{strings.Repeat("\U0001f600", 256) + "x", false},
		{strings.Repeat("\xff", 1024), true},
		{strings.Repeat("\x00", 1024), true},
		{strings.Repeat("\x00", 1025), false},
	} {
		for place, q := range withText(api.OpPut, c.text) {
			if got := request.Good(q); got != c.good {
				t.Errorf("%d bytes at %d can be: %t", len(c.text), place, got)
			}
		}
	}
}

// TestP9_1GoodWithAnyChange: nothing is asked of a change, nor does a kind ask for a text.
func TestP9_1GoodWithAnyChange(t *testing.T) {
	for kind := api.OpGet; kind <= api.OpChange; kind++ {
		if !request.Good(api.Request{Client: 1, Num: 1, Op: api.Op{Kind: kind}}) || !request.Good(api.Request{Client: 64, Num: 1 << 40, Op: api.Op{Kind: kind, Key: long(1024), Val: long(1024), Old: long(1024)}}) {
			t.Errorf("a request of the kind %d can't be", kind)
		}
		for _, n := range odd() {
			q := full()
			q.Op.Kind = kind
			q.Op.Change = api.Change{Kind: n, Id: n, New: n, Key: api.Key{Height: n}}
			if !request.Good(q) {
				t.Errorf("a request of the kind %d with a change of %d can't be", kind, n)
			}
		}
	}
	if request.Good(api.Request{}) {
		t.Error("the zero request can be")
	}
}

func TestP9_1GoodOfAny(t *testing.T) {
	rnd := rand.New(rand.NewSource(1))
	times := map[bool]int{}
	for range 20000 {
		q := someBad(rnd)
		if request.Good(q) != modelGood(q) {
			t.Fatalf("%v can be: %t", told(q), request.Good(q))
		}
		times[modelGood(q)]++
	}
	if times[true] < 1000 || times[false] < 1000 {
		t.Error("both kinds are wanted among them")
	}
}

// known are requests with what another program than Go's made of the document's words.
func known() []struct {
	q             api.Request
	bytes, digest string
} {
	return []struct {
		q             api.Request
		bytes, digest string
	}{
		{api.Request{}, strings.Repeat("00", 100), "dd8e34799f830211f208d5f8df4a26064b066a5d123894e7a21c573969633ee0"},
		{api.Request{Client: 1, Num: 1, Op: api.Op{Kind: api.OpPut, Key: "k", Val: "v"}}, "000000000000000100000000000000010000000000000002" + "000000016b000000017600000000" + strings.Repeat("00", 64), "4b73c0576175d20b3e1c0e464da09ab3e667987a62ecb47fd52959759e25580b"},
		{api.Request{Client: 64, Num: 1 << 40, Op: api.Op{Kind: api.OpChange, Change: api.Change{Kind: api.ChangeReplace, Id: 4, New: 63, Key: api.Key{Root: rising(), Height: 6}}}}, "000000000000004000000100000000000000000000000007000000000000000000000000" + "0000000000000003" + "0000000000000004" + "000000000000003f" + "0000000000000006" + "000102030405060708090a0b0c0d0e0f101112131415161718191a1b1c1d1e1f", "9ea5c615086b4e81ba8bbbc86e519ad850450ef197101fc4b013b4d08e164006"},
		{api.Request{Client: 5, Num: 258, Op: api.Op{Kind: api.OpSwap, Key: "\x00\xff", Val: "\u00e4", Old: "old", Change: api.Change{Kind: -1, Id: -2, New: -3, Key: api.Key{Root: ones(), Height: -4}}}}, "000000000000000500000000000001020000000000000004" + "0000000200ff" + "00000002c3a4" + "000000036f6c64" + "fffffffffffffffffffffffffffffffefffffffffffffffdfffffffffffffffc" + strings.Repeat("ff", 32), "13e4f9187ee1fd62951f364b86113523d88aed4ab7a038a4c3fdfe0f9bb2082d"},
		{api.Request{Client: 65, Num: -1, Op: api.Op{Kind: 8, Key: long(1025), Old: strings.Repeat("y", 2000), Change: api.Change{Kind: 1 << 62, Id: 1, New: 2, Key: api.Key{Root: rising(), Height: 3}}}}, "", "9e23907d775cd8b8933efcf36889ba553a80b3829fa0b5daab42dd1bc72aefb2"},
		{api.Request{Client: 2, Num: 3, Op: api.Op{Kind: api.OpList, Key: long(1024), Val: strings.Repeat("y", 1024), Old: strings.Repeat("z", 1024)}}, "", "694290d6abc438c7acf879956748fef9b2888fbf95a5e5ba6f4d7d4a79a555ab"},
	}
}

func TestP9_1Known(t *testing.T) {
	for _, k := range known() {
		if k.bytes != "" {
			expect(t, "bytes", written(k.q), k.bytes)
		}
		if n := len(k.q.Op.Key) + len(k.q.Op.Val) + len(k.q.Op.Old); len(written(k.q)) != 100+n {
			t.Errorf("%v has %d bytes", told(k.q), len(written(k.q)))
		}
		d := request.Digest(k.q)
		expect(t, "a digest", d[:], k.digest)
	}
}

func TestP9_1KnownReplies(t *testing.T) {
	for _, k := range []struct {
		a     api.Reply
		bytes string
	}{
		{api.Reply{}, strings.Repeat("00", 32)},
		{api.Reply{Vals: []string{}}, strings.Repeat("00", 32)},
		{api.Reply{Client: 1, Num: 1}, "00000000000000010000000000000001" + strings.Repeat("00", 16)},
		{api.Reply{Client: 64, Num: 1 << 40, Code: 1024, Vals: []string{"x", ""}}, "0000000000000040000001000000000000000000000004000000000000000002" + "0000000178" + "00000000"},
		{api.Reply{Client: 2, Num: 258, Code: api.ErrNone, Vals: []string{"", "ab", "\x00\xff"}}, "0000000000000002000000000000010200000000000000070000000000000003" + "00000000" + "000000026162" + "0000000200ff"},
		{api.Reply{Client: -1, Num: -2, Code: -3, Vals: []string{"abc"}}, "fffffffffffffffffffffffffffffffefffffffffffffffd0000000000000001" + "00000003616263"},
	} {
		expect(t, "bytes of a reply", writtenReply(k.a), k.bytes)
	}
}

// TestP9_1WriteAndDigest: of any requests and replies, be they such that can be or not; bytes go behind what was written.
func TestP9_1WriteAndDigest(t *testing.T) {
	rnd := rand.New(rand.NewSource(2))
	for range 3000 {
		q, p, a, b := someBad(rnd), someBad(rnd), someBadReply(rnd), someBadReply(rnd)
		w := &code.Writer{}
		w.Text("ahead")
		request.Write(w, q)
		request.WriteReply(w, a)
		request.WriteReply(w, b)
		request.Write(w, p)
		if !bytes.Equal(w.Bytes(), slices.Concat([]byte("\x00\x00\x00\x05ahead"), modelBytes(q), modelReplyBytes(a), modelReplyBytes(b), modelBytes(p))) {
			t.Fatalf("%v, %v, %v and %v: %x", told(q), toldReply(a), toldReply(b), told(p), w.Bytes())
		}
		if request.Digest(q) != modelDigest(q) || request.Digest(q) != request.Digest(q) {
			t.Fatalf("%v: the digest %x", told(q), request.Digest(q))
		}
	}
}

// changed: requests that differ from full in one field each, or have the same bytes of texts in other ones.
func changed() []api.Request {
	var all []api.Request
	for _, change := range []func(q *api.Request){
		func(q *api.Request) { q.Client++ },
		func(q *api.Request) { q.Num++ },
		func(q *api.Request) { q.Op.Kind++ },
		func(q *api.Request) { q.Op.Key = "kez" },
		func(q *api.Request) { q.Op.Key = "" },
		func(q *api.Request) { q.Op.Val += "\x00" },
		func(q *api.Request) { q.Op.Old = "Old one" },
		func(q *api.Request) { q.Op.Key, q.Op.Val = "keyv", "alue" },
		func(q *api.Request) { q.Op.Val, q.Op.Old = q.Op.Old, q.Op.Val },
		func(q *api.Request) { q.Op.Change.Kind++ },
		func(q *api.Request) { q.Op.Change.Id++ },
		func(q *api.Request) { q.Op.Change.New++ },
		func(q *api.Request) { q.Op.Change.Id, q.Op.Change.New = q.Op.Change.New, q.Op.Change.Id },
		func(q *api.Request) { q.Op.Change.Key.Height++ },
		func(q *api.Request) { q.Op.Change.Key.Root[0] ^= 128 },
		func(q *api.Request) { q.Op.Change.Key.Root[31] ^= 1 },
		func(q *api.Request) { *q = api.Request{} },
	} {
		q := full()
		change(&q)
		all = append(all, q)
	}
	return all
}

// TestP9_1DigestsApart: what differs in one thing has another digest, and other bytes.
func TestP9_1DigestsApart(t *testing.T) {
	digests, texts := map[api.Digest]int{request.Digest(full()): -1}, map[string]int{string(written(full())): -1}
	for i, q := range changed() {
		d, b := request.Digest(q), string(written(q))
		if at, is := digests[d]; is {
			t.Errorf("requests %d and %d have the same digest", i, at)
		}
		if at, is := texts[b]; is {
			t.Errorf("requests %d and %d have the same bytes", i, at)
		}
		digests[d], texts[b] = i, i
	}
}

func TestP9_1NilWriter(t *testing.T) {
	for _, q := range append(changed(), full()) {
		request.Write(nil, q)
	}
	request.WriteReply(nil, fullReply())
	request.WriteReply(nil, api.Reply{})
}

// none: that a reader has no request, and a fault.
func none(t *testing.T, what string, r *code.Reader) {
	t.Helper()
	if q := request.Read(r); q != (api.Request{}) || r.Good() || r.End() {
		t.Errorf("%s: a request %v, good %t", what, told(q), r.Good())
	}
}

// noReply: that a reader has no reply, and a fault.
func noReply(t *testing.T, what string, r *code.Reader) {
	t.Helper()
	if a := request.ReadReply(r); !zero(a) || r.Good() || r.End() {
		t.Errorf("%s: a reply %v, good %t", what, toldReply(a), r.Good())
	}
}

func TestP9_1NilReader(t *testing.T) {
	none(t, "a nil reader", nil)
	noReply(t, "a nil reader", nil)
}

func TestP9_1ReadBehindFault(t *testing.T) {
	b := slices.Concat(modelBytes(full()), modelBytes(full()))
	r := code.Read(b)
	r.In(9, 9)
	none(t, "behind a fault", r)
	none(t, "once more", r)
	noReply(t, "a reply behind it", r)
	r = code.Read(slices.Concat(modelReplyBytes(fullReply()), modelReplyBytes(fullReply())))
	r.In(9, 9)
	noReply(t, "behind a fault", r)
	noReply(t, "once more", r)
	none(t, "a request behind it", r)
}

// TestP9_1ReadCut: bytes of which the last ones are missing are none's.
func TestP9_1ReadCut(t *testing.T) {
	for _, q := range []api.Request{full(), {Client: 1, Num: 1, Op: api.Op{Kind: api.OpGet}}, {Client: 64, Num: 1 << 40, Op: api.Op{Kind: api.OpChange, Key: long(300), Old: long(5)}}} {
		b := modelBytes(q)
		for size := range len(b) {
			none(t, "cut bytes", code.Read(b[:size]))
		}
	}
	for _, a := range []api.Reply{fullReply(), {Client: 1, Num: 1}, {Client: 64, Num: 1 << 40, Code: 1024, Vals: []string{"", "", long(300), ""}}} {
		b := modelReplyBytes(a)
		for size := range len(b) {
			noReply(t, "cut bytes", code.Read(b[:size]))
		}
	}
}

// TestP9_1ReadOfNone: bytes of other things.
func TestP9_1ReadOfNone(t *testing.T) {
	for _, b := range [][]byte{nil, {}, {1}, []byte("request"), bytes.Repeat([]byte{0}, 5000), bytes.Repeat([]byte{1}, 5000), bytes.Repeat([]byte{255}, 5000), []byte(strings.Repeat("abc", 2000))} {
		none(t, "other bytes", code.Read(b))
		noReply(t, "other bytes", code.Read(b))
	}
	none(t, "a reply's bytes", code.Read(modelReplyBytes(fullReply())))
	noReply(t, "a request's bytes", code.Read(modelBytes(full())))
	none(t, "a request behind its name", code.Read(append([]byte("request"), modelBytes(full())...)))
}

// TestP9_1ReadLimits: each number and each text at its limits, and beyond them.
func TestP9_1ReadLimits(t *testing.T) {
	var all []api.Request
	for _, n := range append(odd(), 3, 4, 5, 9, 32) {
		client, num, kind, change := full(), full(), full(), full()
		client.Client, num.Num, kind.Op.Kind = n, n, n
		change.Op.Change = api.Change{Kind: n, Id: n, New: n, Key: api.Key{Height: n}}
		all = append(all, client, num, kind, change)
	}
	for _, n := range []int{0, 1, 255, 256, 1023, 1024, 1025, 2048, 1 << 16, 1<<16 + 1} {
		for _, q := range withText(api.OpPut, long(n)) {
			all = append(all, q)
		}
	}
	for _, q := range all {
		r := code.Read(modelBytes(q))
		if !modelGood(q) {
			none(t, "beyond the limits", r)
		} else if got := request.Read(r); got != q || !r.End() {
			t.Errorf("%v is read as %v", told(q), told(got))
		}
	}
}

// TestP9_1ReadReplyLimits: likewise; a code is from 0 to 1024, and there are at most MaxKeys texts.
func TestP9_1ReadReplyLimits(t *testing.T) {
	var all []api.Reply
	for _, n := range append(odd(), 3, 10, 60, 512) {
		client, num, e := fullReply(), fullReply(), fullReply()
		client.Client, num.Num, e.Code = n, n, api.Errno(n)
		all = append(all, client, num, e)
	}
	for _, n := range []int{0, 1, 2, 255, 256, 257, 258, 512} {
		all = append(all, api.Reply{Client: 1, Num: 1, Vals: make([]string, n)})
	}
	for _, n := range []int{0, 1, 255, 256, 1023, 1024, 1025, 2048, 1<<16 + 1} {
		for at := range 3 {
			a := fullReply()
			a.Vals[at] = long(n)
			all = append(all, a)
		}
		last := api.Reply{Client: 1, Num: 1, Vals: make([]string, 256)}
		last.Vals[255] = long(n)
		all = append(all, last)
	}
	for _, a := range all {
		r := code.Read(modelReplyBytes(a))
		if !modelGoodReply(a) {
			noReply(t, "beyond the limits", r)
		} else if got := request.ReadReply(r); !same(t, got, a) || !r.End() {
			t.Errorf("%v is read as %v", toldReply(a), toldReply(got))
		}
	}
}

// TestP9_1ReadReplyCount: how many texts there are is what is told, be there more of them or fewer.
func TestP9_1ReadReplyCount(t *testing.T) {
	texts := addTexts(nil, make([]string, 300)...)
	for _, n := range odd() {
		r := code.Read(append(addNums(nil, 1, 2, 3, n), texts...))
		if n < 0 || n > 256 {
			noReply(t, "texts", r)
			continue
		}
		wanted := api.Reply{Client: 1, Num: 2, Code: 3, Vals: make([]string, n)}
		if a := request.ReadReply(r); !same(t, a, wanted) || !r.Good() || r.End() {
			t.Errorf("%d texts are read as %v", n, toldReply(a))
		}
		for i := range 300 - n {
			if r.Text(0) != "" || r.End() != (i == 299-n) {
				t.Fatalf("behind %d texts %d are left", n, i)
			}
		}
		if n > 0 {
			noReply(t, "too few texts", code.Read(append(addNums(nil, 1, 2, 3, n), texts[:4*n-4]...)))
		}
	}
}

// TestP9_1ReadAny: bytes of any request, some of them turned, with others behind: just the model's, and what is behind is left.
func TestP9_1ReadAny(t *testing.T) {
	rnd := rand.New(rand.NewSource(3))
	times := map[bool]int{}
	for range 20000 {
		b := turned(rnd, modelBytes(someBad(rnd)))
		r := code.Read(b)
		q := request.Read(r)
		wanted, size, is := modelRead(b)
		if q != wanted || r.Good() != is || r.End() != (is && size == len(b)) {
			t.Fatalf("%x: %v, good %t, end %t", b, told(q), r.Good(), r.End())
		}
		times[is]++
	}
	if times[true] < 1000 || times[false] < 1000 {
		t.Error("both kinds are wanted among them")
	}
}

// TestP9_1ReadAnyReply: likewise.
func TestP9_1ReadAnyReply(t *testing.T) {
	rnd := rand.New(rand.NewSource(4))
	times := map[bool]int{}
	for range 20000 {
		b := turned(rnd, modelReplyBytes(someBadReply(rnd)))
		r := code.Read(b)
		a := request.ReadReply(r)
		wanted, size, is := modelReadReply(b)
		if !modelSame(a, wanted) || r.Good() != is || r.End() != (is && size == len(b)) {
			t.Fatalf("%x: %v, good %t, end %t", b, toldReply(a), r.Good(), r.End())
		}
		times[is]++
	}
	if times[true] < 1000 || times[false] < 1000 {
		t.Error("both kinds are wanted among them")
	}
}

// turned: bytes of which some are turned, and some come behind.
func turned(rnd *rand.Rand, b []byte) []byte {
	for range rnd.Intn(3) {
		b[rnd.Intn(len(b))] ^= 1 << rnd.Intn(8)
	}
	return append(b, "behind"[:rnd.Intn(7)]...)
}

// TestP9_1ReadTakesItsOwn: what stands ahead and behind is another one's.
func TestP9_1ReadTakesItsOwn(t *testing.T) {
	q, a := full(), fullReply()
	w := &code.Writer{}
	w.Num(-1)
	request.Write(w, q)
	w.Text("between")
	request.WriteReply(w, a)
	request.Write(w, q)
	w.Digest(ones())
	r := code.Read(w.Bytes())
	if r.Num() != -1 || request.Read(r) != q || r.Text(7) != "between" || !same(t, request.ReadReply(r), a) || request.Read(r) != q || r.End() || r.Digest() != ones() || !r.End() {
		t.Error("more or less than a request's bytes, or a reply's, is taken")
	}
}

// TestP9_1Same: replies that differ in one thing aren't the same, in either order.
func TestP9_1Same(t *testing.T) {
	all := []api.Reply{{}, {Client: 1}, {Num: 1}, {Code: 1}, {Vals: []string{""}}, {Client: 1, Num: 1}, {Client: -1}, {Client: 1 << 32}, {Num: 1 << 32}, {Code: 1 << 32}, {Code: math.MinInt}, {Num: math.MinInt}}
	for _, vals := range [][]string{{}, {""}, {"", ""}, {"a"}, {"b"}, {"a", ""}, {"", "a"}, {"a", "b"}, {"b", "a"}, {"ab"}, {"ab", ""}, {"", "ab"}, {"a", "b", "c"}, {"a", "x", "c"}, {"x", "b", "c"}, {"a", "b", "x"}, {"A"}, {"a\x00"}, {"\xff"}, {"\xfe"}, {long(1024)}, {long(1025)}} {
		all = append(all, api.Reply{Client: 6, Num: 259, Code: api.ErrOther, Vals: vals})
	}
	for _, change := range []func(a *api.Reply){func(a *api.Reply) {}, func(a *api.Reply) { a.Client++ }, func(a *api.Reply) { a.Num++ }, func(a *api.Reply) { a.Code++ }, func(a *api.Reply) { a.Vals = append(a.Vals, "") }} {
		a := fullReply()
		change(&a)
		all = append(all, a)
	}
	for i, a := range all {
		for k, b := range all {
			if same(t, a, b) != (i == k) {
				t.Errorf("%d and %d: %t", i, k, i != k)
			}
		}
	}
}

// TestP9_1SameOfEmpty: no texts are none, be the list nil or empty, or have room to spare.
func TestP9_1SameOfEmpty(t *testing.T) {
	room := make([]string, 3, 9)
	room[0] = "not in it"
	lists := [][]string{nil, {}, room[:0], room[3:]}
	for _, one := range lists {
		for _, other := range lists {
			if !request.Same(api.Reply{Client: 1, Num: 2, Code: 3, Vals: one}, api.Reply{Client: 1, Num: 2, Code: 3, Vals: other}) {
				t.Error("empty lists differ")
			}
		}
	}
}

func TestP9_1SameOfAny(t *testing.T) {
	rnd := rand.New(rand.NewSource(5))
	times := map[bool]int{}
	for range 5000 {
		a, b := someBadReply(rnd), someBadReply(rnd)
		if rnd.Intn(2) == 0 {
			b = a
			b.Vals = slices.Clone(a.Vals)
		}
		if len(b.Vals) > 0 && rnd.Intn(3) == 0 {
			b.Vals[rnd.Intn(len(b.Vals))] += "!"
		}
		times[same(t, a, b)]++
	}
	if times[true] < 500 || times[false] < 500 {
		t.Error("both kinds are wanted among them")
	}
}

// TestP9_2ThereAndBack: requests that can be, at all limits, and many others.
func TestP9_2ThereAndBack(t *testing.T) {
	all := []api.Request{full()}
	for kind := api.OpGet; kind <= api.OpChange; kind++ {
		for _, client := range []int{1, 2, 63, 64} {
			for _, num := range []int{1, 2, 258, 1 << 32, 1<<40 - 1, 1 << 40} {
				for _, n := range []int{0, 1, 1023, 1024} {
					for _, q := range withText(kind, long(n)) {
						q.Client, q.Num = client, num
						all = append(all, q)
					}
				}
			}
		}
	}
	for _, n := range odd() {
		q := full()
		q.Op.Change = api.Change{Kind: n, Id: -n, New: n ^ 1, Key: api.Key{Root: ones(), Height: n}}
		all = append(all, q)
	}
	rnd := rand.New(rand.NewSource(6))
	for range 5000 {
		all = append(all, someGood(rnd))
	}
	for _, q := range all {
		r := code.Read(written(q))
		if got := request.Read(r); got != q || !r.End() || !request.Good(got) || request.Digest(got) != request.Digest(q) {
			t.Fatalf("%v is read as %v", told(q), told(got))
		}
	}
}

// TestP9_2NotBack: a request that can't be isn't read, nor what stands in it.
func TestP9_2NotBack(t *testing.T) {
	rnd := rand.New(rand.NewSource(7))
	count := 0
	for range 5000 {
		if q := someBad(rnd); !modelGood(q) {
			none(t, "of one that can't be", code.Read(written(q)))
			count++
		}
	}
	if count < 500 {
		t.Errorf("only %d couldn't be", count)
	}
}

// TestP9_2Replies: those whose numbers and texts are within their limits are read as they were written, too.
func TestP9_2Replies(t *testing.T) {
	rnd := rand.New(rand.NewSource(8))
	for n := range 257 {
		for range 5 {
			a := someGoodReply(rnd, n)
			r := code.Read(writtenReply(a))
			if got := request.ReadReply(r); !same(t, got, a) || !r.End() {
				t.Fatalf("%v is read as %v", toldReply(a), toldReply(got))
			}
		}
	}
}

// TestP9_2OneForm: bytes that are read to their end are those that what was read is written as.
func TestP9_2OneForm(t *testing.T) {
	rnd := rand.New(rand.NewSource(9))
	requests, replies := 0, 0
	for range 20000 {
		b := modelBytes(someGood(rnd))
		b[rnd.Intn(len(b))] ^= 1 << rnd.Intn(8)
		r := code.Read(b)
		if q := request.Read(r); r.End() {
			requests++
			if !bytes.Equal(written(q), b) || !request.Good(q) {
				t.Fatalf("%x is written as %x", b, written(q))
			}
		}
		b = modelReplyBytes(someGoodReply(rnd, rnd.Intn(4)))
		b[rnd.Intn(len(b))] ^= 1 << rnd.Intn(8)
		r = code.Read(b)
		if a := request.ReadReply(r); r.End() {
			replies++
			if !bytes.Equal(writtenReply(a), b) {
				t.Fatalf("%x is written as %x", b, writtenReply(a))
			}
		}
	}
	if requests < 1000 || replies < 1000 {
		t.Errorf("only %d and %d were read", requests, replies)
	}
}

// roomy: a reply whose list has room to spare, in which something stands, and the whole of that room.
func roomy(a api.Reply) (api.Reply, []string) {
	all := append(slices.Clone(a.Vals), "spare", "", "room", long(1025))
	a.Vals = all[:len(a.Vals)]
	return a, all
}

// TestP9_3NothingIsChanged: by any call, in the room to spare either.
func TestP9_3NothingIsChanged(t *testing.T) {
	rnd := rand.New(rand.NewSource(10))
	for range 3000 {
		a, one := roomy(someBadReply(rnd))
		b, other := roomy(someBadReply(rnd))
		before, ahead := slices.Clone(one), slices.Clone(other)
		w := &code.Writer{}
		request.WriteReply(w, a)
		request.WriteReply(w, b)
		request.Same(a, b)
		request.Same(a, a)
		bytesOf := slices.Concat(modelReplyBytes(a), modelBytes(someBad(rnd)))
		kept := slices.Clone(bytesOf)
		request.ReadReply(code.Read(bytesOf))
		request.Read(code.Read(bytesOf))
		if !slices.Equal(one, before) || !slices.Equal(other, ahead) || !bytes.Equal(bytesOf, kept) {
			t.Fatalf("%.20q or %.20q became another one", before, ahead)
		}
	}
}

// filled writes over all of a reply's list, spare room included.
func filled(a api.Reply) {
	all := a.Vals[:cap(a.Vals)]
	for i := range all {
		all[i] = "filled"
	}
}

// TestP9_3NothingIsKept: what is written into a list behind a call isn't seen.
func TestP9_3NothingIsKept(t *testing.T) {
	a, _ := roomy(fullReply())
	w := &code.Writer{}
	request.WriteReply(w, a)
	wasSame := request.Same(a, fullReply())
	filled(a)
	if !bytes.Equal(w.Bytes(), modelReplyBytes(fullReply())) {
		t.Error("what is written behind a call is seen")
	}
	if !wasSame || request.Same(a, fullReply()) || !bytes.Equal(writtenReply(a), modelReplyBytes(a)) {
		t.Error("what was handed in is kept")
	}
}

// TestP9_3AnswersAreNew: what is written into an answer is seen in nothing else, and what is written into the bytes isn't seen in an answer.
func TestP9_3AnswersAreNew(t *testing.T) {
	for _, n := range []int{0, 1, 2, 3, 5, 100, 255, 256} {
		a := api.Reply{Client: 3, Num: 4, Code: api.ErrFew}
		for i := range n {
			a.Vals = append(a.Vals, long(i))
		}
		b := modelReplyBytes(a)
		r := code.Read(slices.Concat(b, b))
		first := request.ReadReply(r)
		second, third := request.ReadReply(r), request.ReadReply(code.Read(b))
		filled(first)
		if !same(t, second, a) || !same(t, third, a) || !bytes.Equal(b, modelReplyBytes(a)) {
			t.Errorf("%d texts: answers share memory, or one with the bytes", n)
		}
		filled(third)
		clear(b)
		if !same(t, second, a) {
			t.Errorf("%d texts: an answer shares memory with another one, or the bytes", n)
		}
	}
}

func TestP9_3ReadRequestsAreNew(t *testing.T) {
	q := full()
	b := modelBytes(q)
	r := code.Read(b)
	got := request.Read(r)
	clear(b)
	got.Op.Change.Key.Root[0] ^= 1
	if again := request.Read(code.Read(modelBytes(q))); again != q || got.Op.Key != "key" || got.Op.Val != "value" || got.Op.Old != "old one" {
		t.Error("an answer shares memory with the bytes, or with another one")
	}
}
