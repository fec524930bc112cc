package code_test

import (
	"bytes"
	"encoding/hex"
	"math"
	"strings"
	"testing"

	"wapentake/api"
	"wapentake/code"
)

func digestOf(first byte) api.Digest {
	var d api.Digest
	for i := range d {
		d[i] = first + byte(i)
	}
	return d
}

func expectBytes(t *testing.T, what string, w *code.Writer, wanted string) {
	t.Helper()
	if got := hex.EncodeToString(w.Bytes()); got != wanted {
		t.Errorf("%s: %s, not %s", what, got, wanted)
	}
}

func TestP1_1Numbers(t *testing.T) {
	for _, c := range []struct {
		n      int
		wanted string
	}{
		{0, "0000000000000000"},
		{1, "0000000000000001"},
		{258, "0000000000000102"},
		{0x0102030405060708, "0102030405060708"},
		{-1, "ffffffffffffffff"},
		{-258, "fffffffffffffefe"},
		{math.MaxInt, "7fffffffffffffff"},
		{math.MinInt, "8000000000000000"},
	} {
		var w code.Writer
		w.Num(c.n)
		expectBytes(t, "a number", &w, c.wanted)
		if r := code.Read(w.Bytes()); r.Num() != c.n || !r.End() {
			t.Errorf("%d isn't read", c.n)
		}
	}
}

func TestP1_1Texts(t *testing.T) {
	for _, c := range []struct{ text, head string }{
		{"", "00000000"},
		{"ab", "00000002"},
		{"\x00\xff\xc3", "00000003"},
		{strings.Repeat("x", 255), "000000ff"},
		{strings.Repeat("x", 256), "00000100"},
		{strings.Repeat("x", 0x012345), "00012345"},
		{strings.Repeat("x", 0x01020304), "01020304"},
	} {
		var w code.Writer
		w.Text(c.text)
		b := w.Bytes()
		if len(b) != 4+len(c.text) || hex.EncodeToString(b[:4]) != c.head || string(b[4:]) != c.text {
			t.Errorf("a text of %d bytes", len(c.text))
		}
		if r := code.Read(b); r.Text(len(c.text)) != c.text || !r.End() {
			t.Errorf("a text of %d bytes isn't read", len(c.text))
		}
	}
}

func TestP1_1Digests(t *testing.T) {
	d := digestOf(0xf0)
	w := &code.Writer{}
	w.Digest(d, api.Digest{})
	expectBytes(t, "digests", w, hex.EncodeToString(d[:])+strings.Repeat("00", 32))
	r := code.Read(w.Bytes())
	if r.Digest() != d || r.Digest() != (api.Digest{}) || !r.End() {
		t.Error("digests aren't read")
	}
}

func TestP1_1WriterKeepsOrder(t *testing.T) {
	var w code.Writer
	expectBytes(t, "the zero value", &w, "")
	w.Num()
	w.Text()
	w.Digest()
	expectBytes(t, "nothing handed in", &w, "")
	w.Text("b", "a")
	w.Num(2, 1)
	wanted := "0000000162" + "0000000161" + "0000000000000002" + "0000000000000001"
	expectBytes(t, "in order", &w, wanted)
	expectBytes(t, "once more", &w, wanted)
	w.Digest(api.Digest{9})
	w.Text("")
	expectBytes(t, "behind Bytes", &w, wanted+"09"+strings.Repeat("00", 31)+"00000000")
}

func TestP1_1NilWriter(t *testing.T) {
	var w *code.Writer
	w.Num(1)
	w.Text("a")
	w.Digest(api.Digest{1})
	if len(w.Bytes()) != 0 {
		t.Error("a nil writer has bytes")
	}
}

func TestP1_1NilReader(t *testing.T) {
	var r *code.Reader
	for range 2 {
		if r.Num() != 0 || r.In(-1, 1) != 0 || r.In(1, 2) != 0 || r.Text(9) != "" || r.Text(-1) != "" || r.Digest() != (api.Digest{}) || r.Good() || r.End() {
			t.Error("a nil reader has something")
		}
	}
}

func TestP1_1EmptyReader(t *testing.T) {
	for _, b := range [][]byte{nil, {}} {
		r := code.Read(b)
		if !r.Good() || !r.End() {
			t.Error("no bytes are a fault")
		}
		if r.Num() != 0 || r.Good() || r.End() {
			t.Error("a number of no bytes")
		}
	}
}

// expectFault: behind a fault there is nothing, though bytes for each call follow.
func expectFault(t *testing.T, what string, r *code.Reader) {
	t.Helper()
	for range 2 {
		if r.Good() || r.End() {
			t.Errorf("%s: no fault", what)
		}
		if r.Num() != 0 || r.In(0, math.MaxInt) != 0 || r.In(1, 2) != 0 || r.Text(math.MaxInt) != "" || r.Digest() != (api.Digest{}) {
			t.Errorf("%s: something is behind it", what)
		}
	}
}

func TestP1_1TooFewBytes(t *testing.T) {
	plenty := bytes.Repeat([]byte{1}, 64)
	for n := range 8 {
		r := code.Read(plenty[:n])
		if r.Num() != 0 {
			t.Errorf("a number of %d bytes", n)
		}
		expectFault(t, "Num", r)
	}
	for n := range 32 {
		r := code.Read(plenty[:n])
		if r.Digest() != (api.Digest{}) {
			t.Errorf("a digest of %d bytes", n)
		}
		expectFault(t, "Digest", r)
	}
	for n := range 4 {
		r := code.Read(plenty[:n])
		if r.Text(math.MaxInt) != "" {
			t.Errorf("a text of %d bytes", n)
		}
		expectFault(t, "Text's head", r)
	}
	for _, b := range []string{"\x00\x00\x00\x03ab", "\x00\x00\x00\x01", "\x7f\xff\xff\xffa", "\x80\x00\x00\x00a", "\xff\xff\xff\xffa"} {
		r := code.Read([]byte(b))
		if r.Text(math.MaxInt) != "" {
			t.Errorf("a text of %x", b)
		}
		expectFault(t, "Text's bytes", r)
	}
}

func TestP1_1LongTexts(t *testing.T) {
	w := &code.Writer{}
	w.Text("ab", "")
	w.Num(7)
	w.Digest(api.Digest{1})
	for _, most := range []int{1, 0, -1, math.MinInt} {
		r := code.Read(w.Bytes())
		if r.Text(most) != "" {
			t.Errorf("a text of more than %d bytes", most)
		}
		expectFault(t, "Text", r)
	}
	for _, most := range []int{2, 3, math.MaxInt} {
		r := code.Read(w.Bytes())
		if r.Text(most) != "ab" || r.Text(0) != "" || r.Num() != 7 || r.End() || r.Digest() != (api.Digest{1}) || !r.End() {
			t.Errorf("a text of at most %d bytes", most)
		}
	}
	r := code.Read([]byte{0, 0, 0, 0})
	if r.Text(-1) != "" {
		t.Error("an empty text of less than none")
	}
	expectFault(t, "an empty text of less than none", r)
}

func TestP1_1In(t *testing.T) {
	for _, c := range []struct {
		n, lo, hi int
		good      bool
	}{
		{5, 5, 5, true},
		{5, 4, 6, true},
		{5, 6, 9, false},
		{5, 1, 4, false},
		{5, 9, 1, false},
		{5, 6, 4, false},
		{0, 0, 0, true},
		{0, 1, 3, false},
		{-3, -3, -1, true},
		{-4, -3, -1, false},
		{-1, 0, math.MaxInt, false},
		{math.MinInt, math.MinInt, math.MaxInt, true},
		{math.MaxInt, math.MinInt, math.MaxInt, true},
		{math.MaxInt, math.MinInt, math.MaxInt - 1, false},
	} {
		w := &code.Writer{}
		w.Num(c.n, 8)
		w.Text("behind")
		w.Digest(digestOf(1))
		r := code.Read(w.Bytes())
		got := r.In(c.lo, c.hi)
		if !c.good {
			if got != 0 {
				t.Errorf("%d in %d to %d is %d", c.n, c.lo, c.hi, got)
			}
			expectFault(t, "In", r)
			continue
		}
		if got != c.n || !r.Good() || r.End() || r.Num() != 8 || r.Text(6) != "behind" || r.Digest() != digestOf(1) || !r.End() {
			t.Errorf("%d in %d to %d is %d", c.n, c.lo, c.hi, got)
		}
	}
}

func TestP1_1LastBytesWithFault(t *testing.T) {
	w := &code.Writer{}
	w.Num(9)
	r := code.Read(w.Bytes())
	if r.In(1, 8) != 0 || r.Good() || r.End() {
		t.Error("at the end, but with a fault")
	}
}

func TestP1_1Examples(t *testing.T) {
	w := &code.Writer{}
	w.Num(258)
	w.Text("ab")
	expectBytes(t, "the examples", w, "0000000000000102"+"000000026162")
	r := code.Read(w.Bytes()[8:])
	if r.Text(1) != "" {
		t.Error("Text(1) of ab")
	}
	expectFault(t, "Text(1) of ab", r)
}

func TestP1_4ReadKeepsNothing(t *testing.T) {
	w := &code.Writer{}
	w.Num(1)
	w.Text("ab")
	w.Digest(digestOf(3))
	roomy := append(make([]byte, 0, 256), w.Bytes()...)
	whole := roomy[:cap(roomy)]
	for i := len(roomy); i < len(whole); i++ {
		whole[i] = 0x5a
	}
	before := bytes.Clone(whole)
	r := code.Read(roomy)
	if r.Num() != 1 {
		t.Error("Num")
	}
	for i := range whole {
		whole[i] = 0xee
	}
	if r.Text(2) != "ab" || r.Digest() != digestOf(3) || !r.End() {
		t.Error("what is written behind Read is seen")
	}
	copy(whole, before)
	r = code.Read(roomy)
	r.Num()
	r.Text(2)
	r.Digest()
	r.Num()
	if !bytes.Equal(whole, before) {
		t.Error("what was handed in is changed")
	}
}

func TestP1_4TextsAreNew(t *testing.T) {
	b := []byte("\x00\x00\x00\x02ab\x00\x00\x00\x02cd")
	r := code.Read(b)
	first := r.Text(2)
	clear(b)
	second := r.Text(2)
	if first != "ab" || second != "cd" {
		t.Error(first, second)
	}
}

func TestP1_4WriterKeepsNothing(t *testing.T) {
	nums := append(make([]int, 0, 8), 1, 2)
	texts := append(make([]string, 0, 8), "a", "b")
	digests := append(make([]api.Digest, 0, 8), digestOf(1), digestOf(2))
	w := &code.Writer{}
	w.Num(nums...)
	w.Text(texts...)
	w.Digest(digests...)
	before := w.Bytes()
	if nums[0] != 1 || nums[1] != 2 || nums[:3][2] != 0 || texts[0] != "a" || texts[1] != "b" || texts[:3][2] != "" {
		t.Error("numbers or texts are changed")
	}
	if digests[0] != digestOf(1) || digests[1] != digestOf(2) || digests[:3][2] != (api.Digest{}) {
		t.Error("digests are changed")
	}
	clear(nums)
	clear(texts)
	clear(digests)
	if !bytes.Equal(before, w.Bytes()) {
		t.Error("lists that were handed in are kept")
	}
}

func TestP1_4BytesAreNew(t *testing.T) {
	w := &code.Writer{}
	for i := range 100 { // so that the writer has room to spare at some time
		w.Num(i)
		first, second := w.Bytes(), w.Bytes()
		wanted := bytes.Clone(second)
		for j := range first[:cap(first)] {
			first[:cap(first)][j] ^= 0xff
		}
		if !bytes.Equal(second, wanted) || !bytes.Equal(w.Bytes(), wanted) {
			t.Fatal("an answer shares memory")
		}
		w.Text("behind")
		if !bytes.Equal(second, wanted) || !bytes.HasPrefix(w.Bytes(), wanted) {
			t.Fatal("an answer is written on")
		}
		grown := append(second, 0xaa)
		w.Num(-1)
		if grown[len(grown)-1] != 0xaa || !bytes.HasSuffix(w.Bytes(), bytes.Repeat([]byte{0xff}, 8)) {
			t.Fatal("an answer's room is the writer's")
		}
	}
}
