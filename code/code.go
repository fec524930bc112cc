// Package code is layer 1: the canonical binary encoding. See shared/doc/01-code.md.
package code

import "wapentake/api"

const (
	numSize  = 8 // bytes of a number
	headSize = 4 // bytes that tell how many a text has
)

// Writer has what was written into it, in order; its zero value has nothing yet.
type Writer struct {
	all []byte
}

// Bytes: what was written; new memory.
func (w *Writer) Bytes() []byte {
	if w == nil {
		return nil
	}
	// The third index leaves append no room in the writer's own memory.
	return append(w.all[:0:0], w.all...)
}

// Num writes numbers: eight bytes each, in two's complement, the highest first.
func (w *Writer) Num(list ...int) {
	if w == nil {
		return
	}
	for _, n := range list {
		w.put(uint64(n), numSize)
	}
}

// Text writes texts: how many bytes, in four bytes, the highest first, and these.
func (w *Writer) Text(list ...string) {
	if w == nil {
		return
	}
	for _, text := range list {
		w.put(uint64(len(text)), headSize)
		w.all = append(w.all, text...)
	}
}

// Digest writes digests, as they are.
func (w *Writer) Digest(list ...api.Digest) {
	if w == nil {
		return
	}
	for _, d := range list {
		w.all = append(w.all, d[:]...)
	}
}

// put writes the lowest size bytes of n, the highest of them first.
func (w *Writer) put(n uint64, size int) {
	for shift := 8 * (size - 1); shift >= 0; shift -= 8 {
		w.all = append(w.all, byte(n>>shift))
	}
}

// Reader goes over bytes; behind the first fault it has nothing more.
type Reader struct {
	rest []byte
	bad  bool
}

// Read: a reader of bytes; they are copied.
func Read(b []byte) *Reader {
	rest := make([]byte, len(b))
	copy(rest, b)
	return &Reader{rest: rest}
}

// Num: the next number; 0 if there is a fault.
func (r *Reader) Num() int {
	b, _ := r.take(numSize)
	return int(join(b))
}

// In: the next number, which must be from lo to hi; 0 if there is a fault.
func (r *Reader) In(lo, hi int) int {
	n := r.Num()
	if n < lo || n > hi {
		r.fail()
		return 0
	}
	return n
}

// Text: the next text, of at most so many bytes; empty if there is a fault.
func (r *Reader) Text(most int) string {
	var size int64
	var text []byte
	head, ok := r.take(headSize)
	if !ok {
		goto fault
	}
	size = int64(join(head))
	if size > int64(most) {
		goto fault
	}
	text, ok = r.take(size)
	if !ok {
		goto fault
	}
	return string(text)
fault:
	r.fail()
	return ""
}

// Digest: the next digest; zeros if there is a fault.
func (r *Reader) Digest() api.Digest {
	var d api.Digest
	b, _ := r.take(int64(len(d)))
	copy(d[:], b)
	return d
}

// Good: whether there was no fault.
func (r *Reader) Good() bool { return r != nil && !r.bad }

// End: whether there was no fault, and nothing is left.
func (r *Reader) End() bool { return r.Good() && len(r.rest) == 0 }

// take takes the next size bytes, to be copied by who asks for them; false, and none, if there is a fault.
func (r *Reader) take(size int64) ([]byte, bool) {
	var piece []byte
	if !r.Good() || size > int64(len(r.rest)) {
		goto fault
	}
	piece = r.rest[:size:size]
	r.rest = r.rest[size:]
	return piece, true
fault:
	r.fail()
	return nil, false
}

// fail: nothing is left from here on.
func (r *Reader) fail() {
	if r != nil {
		r.rest, r.bad = nil, true
	}
}

// join: the number of some bytes, the highest first; 0 of none.
func join(b []byte) uint64 {
	n := uint64(0)
	for _, c := range b {
		n = n<<8 | uint64(c)
	}
	return n
}
