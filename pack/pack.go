// Package pack writes numbers as bytes and reads them again.
package pack

import (
	"math"

	"sketch/hash"
	"sketch/limit"
)

// form is what saved bytes begin with. Were they written in another way, they would have another one.
const form = "sketch 1"

// head is as much of some bytes as the form is long.
type head [len(form)]byte

// headOf is filled up with zeros, of which the form has none, where the bytes are too short.
func headOf(bytes string) head {
	var h head
	copy(h[:], bytes)
	return h
}

// Writer has what was written so far.
type Writer struct {
	bytes []byte
}

// NewWriter has written the head.
func NewWriter() *Writer { return &Writer{bytes: []byte(form)} }

// Number writes one that is not below 0, seven bits to a byte and the lowest ones first, so that small ones are short.
func (w *Writer) Number(n int) {
	rest := uint(n)
	for ; rest > 127; rest >>= 7 {
		w.bytes = append(w.bytes, byte(rest)|128)
	}
	w.bytes = append(w.bytes, byte(rest))
}

// Parts writes the numbers that stand there.
func (w *Writer) Parts(parts []*int) {
	for _, part := range parts {
		w.Number(*part)
	}
}

// Close is all that was written and, since bytes may come back damaged, its sum.
func (w *Writer) Close() string {
	w.Number(sum(w.bytes))
	return string(w.bytes)
}

// sum differs for any two texts of one length that differ in one byte.
func sum(bytes []byte) int {
	const base = 1_000_003_000_007
	all := 1
	for _, b := range bytes {
		all = hash.Of([2]int{base, int(b)}, all)
	}
	return all
}

// Reader gives out what a Writer wrote. Once something is wrong it stays so, and its user may go on and ask at the end.
//
// It does not look at the sum, nor for a second way to write a number, nor for bytes that are left over: whoever writes again what was read sees all that at once.
type Reader struct {
	rest  string
	wrong bool
}

// NewReader is wrong from the beginning if these bytes have another head.
func NewReader(saved string) *Reader {
	if headOf(saved) != headOf(form) {
		return &Reader{wrong: true}
	}
	return &Reader{rest: saved[len(form):]}
}

// Wrong tells whether something was.
func (r *Reader) Wrong() bool { return r.wrong }

// Check takes all for wrong if this does not hold.
func (r *Reader) Check(good bool) {
	if !good {
		r.wrong = true
	}
}

// Number is the next one, which is to be one of low to high. If something is wrong, it is low.
func (r *Reader) Number(low, high int) int {
	n, some := r.next()
	r.Check(some && limit.Within(n, low, high))
	if r.wrong {
		return low
	}
	return n
}

// Parts fills in numbers of any size.
func (r *Reader) Parts(parts []*int) {
	for _, part := range parts {
		*part = r.Number(0, math.MaxInt)
	}
}

// next is false if the bytes end within the number, or if it has more bits than an int that is not below 0.
func (r *Reader) next() (int, bool) {
	const most = 9
	n := 0
	for i := range min(most, len(r.rest)) {
		b := r.rest[i]
		n |= int(b&127) << (7 * i)
		if b < 128 {
			r.rest = r.rest[i+1:]
			return n, true
		}
	}
	return 0, false
}
