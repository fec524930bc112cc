package code_test

import (
	"bytes"
	"encoding/binary"
	"math/rand"
	"testing"

	"wapentake/api"
	"wapentake/code"
)

// Kinds of calls.
const (
	callNum = iota
	callIn
	callText
	callDigest
	calls
)

// call is one of a reader's, with its arguments: lo and hi of In, hi as most of Text.
type call struct{ kind, lo, hi int }

// answer is what a call gave.
type answer struct {
	num    int
	text   string
	digest api.Digest
}

func ask(r *code.Reader, c call) answer {
	switch c.kind {
	case callNum:
		return answer{num: r.Num()}
	case callIn:
		return answer{num: r.In(c.lo, c.hi)}
	case callText:
		return answer{text: r.Text(c.hi)}
	}
	return answer{digest: r.Digest()}
}

func write(w *code.Writer, c call, a answer) {
	switch c.kind {
	case callNum, callIn:
		w.Num(a.num)
	case callText:
		w.Text(a.text)
	case callDigest:
		w.Digest(a.digest)
	}
}

// model is the document's reader, told another way: one field is looked at as a whole, and taken or not.
type model struct {
	left  []byte
	fault bool
}

// field: the next field's bytes without its head, and how many it has with it; below 0: there is none.
func (m *model) field(c call) ([]byte, int) {
	head, size := 0, 8
	switch c.kind {
	case callDigest:
		size = 32
	case callText:
		if len(m.left) < 4 {
			return nil, -1
		}
		head, size = 4, int(binary.BigEndian.Uint32(m.left))
		if size > c.hi {
			return nil, -1
		}
	}
	if m.fault || len(m.left)-head < size {
		return nil, -1
	}
	return m.left[head : head+size], head + size
}

func (m *model) ask(c call) answer {
	var a answer
	b, size := m.field(c)
	if size < 0 {
		*m = model{fault: true}
		return a
	}
	switch c.kind {
	case callNum, callIn:
		a.num = int(binary.BigEndian.Uint64(b))
	case callText:
		a.text = string(b)
	case callDigest:
		copy(a.digest[:], b)
	}
	if c.kind == callIn && (a.num < c.lo || a.num > c.hi) {
		*m = model{fault: true}
		return answer{}
	}
	m.left = m.left[size:]
	return a
}

// somePairs: mostly calls that fit the answers, with answers to write for them.
func somePairs(rnd *rand.Rand) ([]call, []answer) {
	var cs []call
	var as []answer
	for range rnd.Intn(8) {
		c := call{kind: rnd.Intn(calls)}
		var a answer
		switch c.kind {
		case callNum, callIn:
			a.num = int(rnd.Uint64()) >> rnd.Intn(64)
			c.lo, c.hi = a.num-rnd.Intn(2), a.num+rnd.Intn(2)
			if c.lo > a.num || c.hi < a.num { // they wrapped round
				c.lo, c.hi = a.num, a.num
			}
		case callText:
			b := make([]byte, rnd.Intn(300))
			rnd.Read(b)
			a.text, c.hi = string(b), len(b)+rnd.Intn(2)
		case callDigest:
			rnd.Read(a.digest[:])
		}
		cs, as = append(cs, c), append(as, a)
	}
	return cs, as
}

func written(cs []call, as []answer) []byte {
	var w code.Writer
	for i, c := range cs {
		write(&w, c, as[i])
	}
	return w.Bytes()
}

// spoil turns, cuts or lengthens bytes, and moves a call's bounds.
func spoil(rnd *rand.Rand, b []byte, cs []call) []byte {
	switch rnd.Intn(4) {
	case 0:
		if len(b) > 0 {
			b[rnd.Intn(len(b))] ^= byte(1 << rnd.Intn(8))
		}
	case 1:
		b = b[:rnd.Intn(len(b)+1)]
	case 2:
		b = append(b, byte(rnd.Intn(256)))
	case 3:
		if len(cs) > 0 {
			c := &cs[rnd.Intn(len(cs))]
			c.lo, c.hi = c.lo+rnd.Intn(3)-1, c.hi+rnd.Intn(3)-2
		}
	}
	return b
}

func TestP1_1AllOrders(t *testing.T) {
	rnd := rand.New(rand.NewSource(1))
	faults := 0
	for range 20000 {
		cs, as := somePairs(rnd)
		b := spoil(rnd, written(cs, as), cs)
		if rnd.Intn(2) == 0 { // one call more than there are fields
			cs = append(cs, call{kind: rnd.Intn(calls), lo: -1, hi: 1})
		}
		m, r := &model{left: b}, code.Read(b)
		for _, c := range cs {
			if got, wanted := ask(r, c), m.ask(c); got != wanted {
				t.Fatalf("%x, %v: %#v, not %#v", b, cs, got, wanted)
			}
			if r.Good() == m.fault || r.End() != (!m.fault && len(m.left) == 0) {
				t.Fatalf("%x, %v: Good %v, End %v", b, cs, r.Good(), r.End())
			}
		}
		if m.fault {
			faults++
		}
	}
	if faults < 2000 || faults > 18000 {
		t.Errorf("%d faults: these tries don't tell much", faults)
	}
}

func TestP1_2ThereAndBack(t *testing.T) {
	rnd := rand.New(rand.NewSource(2))
	for range 20000 {
		cs, as := somePairs(rnd)
		r := code.Read(written(cs, as))
		for i, c := range cs {
			if got := ask(r, c); got != as[i] {
				t.Fatalf("%v: %#v, not %#v", c, got, as[i])
			}
		}
		if !r.Good() || !r.End() {
			t.Fatalf("%v: something is left", cs)
		}
	}
}

// TestP1_2Lists: numbers, texts and digests that are handed in at once are read one by one.
func TestP1_2Lists(t *testing.T) {
	w := &code.Writer{}
	w.Num(-7, 0, 1<<40)
	w.Text("", "key", "\x00")
	w.Digest(digestOf(1), digestOf(2))
	r := code.Read(w.Bytes())
	if r.Num() != -7 || r.In(0, 0) != 0 || r.In(0, 1<<40) != 1<<40 {
		t.Error("numbers")
	}
	if r.Text(0) != "" || r.Text(api.MaxText) != "key" || r.Text(1) != "\x00" {
		t.Error("texts")
	}
	if r.End() || r.Digest() != digestOf(1) || r.Digest() != digestOf(2) || !r.End() {
		t.Error("digests")
	}
}

func TestP1_3OneForm(t *testing.T) {
	rnd := rand.New(rand.NewSource(3))
	ends := 0
	for range 20000 {
		cs, as := somePairs(rnd)
		b := spoil(rnd, written(cs, as), cs)
		r := code.Read(b)
		for i, c := range cs {
			as[i] = ask(r, c)
		}
		if !r.End() {
			continue
		}
		ends++
		if again := written(cs, as); !bytes.Equal(again, b) {
			t.Fatalf("%x is read as what is written %x", b, again)
		}
	}
	if ends < 1000 {
		t.Errorf("%d ends: these tries don't tell much", ends)
	}
}

// TestP1_3AnyHead: of all heads of a short text only the one that its bytes have is read.
func TestP1_3AnyHead(t *testing.T) {
	for size := range 256 {
		for at := range 4 {
			b := append(make([]byte, 4), "abc"...)
			b[at] = byte(size)
			r := code.Read(b)
			text := r.Text(1 << 30)
			if good := at == 3 && size == 3; r.End() != good || good && text != "abc" {
				t.Errorf("head %x: %q, End %v", b[:4], text, r.End())
			}
		}
	}
}
