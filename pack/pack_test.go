package pack

import (
	"math"
	"slices"
	"strings"
	"testing"

	"sketch/api"
)

func written(numbers ...int) *Writer {
	w := NewWriter()
	for _, n := range numbers {
		w.Number(n)
	}
	return w
}

func someNumbers() []int {
	list := []int{0, math.MaxInt, math.MaxInt - 1, api.MaxTime, api.Prime - 1}
	for bit := range 63 {
		list = append(list, 1<<bit-1, 1<<bit, 1<<bit+1)
	}
	return list
}

func TestNumbersComeBack(t *testing.T) {
	list := someNumbers()
	r := NewReader(written(list...).Close())
	for i, n := range list {
		if got := r.Number(0, math.MaxInt); got != n || r.Wrong() {
			t.Fatalf("number %d is %d, wrong: %v; want %d", i, got, r.Wrong(), n)
		}
	}
}

func TestPartsComeBack(t *testing.T) {
	a, b, c := 5, math.MaxInt, 0
	w := NewWriter()
	w.Parts([]*int{&a, &b, &c})
	a, b, c = 9, 9, 9
	r := NewReader(w.Close())
	r.Parts([]*int{&a, &b, &c})
	if a != 5 || b != math.MaxInt || c != 0 || r.Wrong() {
		t.Errorf("%d %d %d, wrong: %v", a, b, c, r.Wrong())
	}
}

func TestSmallNumbersAreShort(t *testing.T) {
	for n, want := range map[int]int{0: 1, 1: 1, 127: 1, 128: 2, 1<<14 - 1: 2, 1 << 14: 3, api.MaxTime: 9, math.MaxInt: 9} {
		if got := len(written(n).bytes) - len(form); got != want {
			t.Errorf("%d takes %d bytes, want %d", n, got, want)
		}
	}
}

func TestLimitsOfNumbers(t *testing.T) {
	for _, c := range []struct {
		n, low, high, want int
		wrong              bool
	}{
		{5, 5, 5, 5, false}, {4, 5, 9, 5, true}, {5, 5, 9, 5, false}, {9, 5, 9, 9, false}, {10, 5, 9, 5, true}, {0, 0, 0, 0, false}, {3, 3, 2, 3, true}, {0, 0, -2, 0, true}, {math.MaxInt, 0, math.MaxInt - 1, 0, true},
	} {
		r := NewReader(written(c.n).Close())
		if got := r.Number(c.low, c.high); got != c.want || r.Wrong() != c.wrong {
			t.Errorf("%+v: %d, wrong: %v", c, got, r.Wrong())
		}
	}
}

func TestWrongStaysWrong(t *testing.T) {
	r := NewReader(written(1, 2, 3).Close())
	r.Check(true)
	if r.Wrong() || r.Number(0, 9) != 1 {
		t.Fatal("wrong from the beginning")
	}
	r.Check(false)
	r.Check(true)
	if got := r.Number(0, 9); got != 0 || !r.Wrong() {
		t.Errorf("the next number is %d, wrong: %v", got, r.Wrong())
	}
}

func TestOtherHeads(t *testing.T) {
	saved := written(7).Close()
	for _, text := range []string{"", "s", form[:len(form)-1], "Sketch 1" + saved[len(form):], "sketch 2" + saved[len(form):], saved[1:], " " + saved, strings.Repeat("\x00", 40)} {
		r := NewReader(text)
		if !r.Wrong() || r.Number(3, 9) != 3 {
			t.Errorf("%q is taken", text)
		}
	}
	if NewReader(form).Wrong() {
		t.Error("a head alone is wrong")
	}
}

func TestBytesThatAreNoNumber(t *testing.T) {
	long := strings.Repeat("\xff", 8)
	for text, good := range map[string]bool{"": false, "\x80": false, long: false, long + "\xff": false, long + "\xff\x01": false, long + "\x80\x00": false, long + "\x7f": true, "\x00": true, "\x80\x01": true} {
		r := NewReader(form + text)
		r.Number(0, math.MaxInt)
		if r.Wrong() == good {
			t.Errorf("%q: wrong: %v", text, r.Wrong())
		}
	}
}

// Any one byte that is changed, left out or put in makes another sum.
func TestSumsDiffer(t *testing.T) {
	bytes := written(someNumbers()...).bytes
	for i := range bytes {
		for _, change := range []byte{1, 2, 128, 255} {
			other := slices.Clone(bytes)
			other[i] += change
			if sum(other) == sum(bytes) {
				t.Fatalf("byte %d changed by %d: the same sum", i, change)
			}
		}
		if sum(slices.Delete(slices.Clone(bytes), i, i+1)) == sum(bytes) || sum(slices.Insert(slices.Clone(bytes), i, 0)) == sum(bytes) {
			t.Fatalf("byte %d left out, or one put in: the same sum", i)
		}
	}
	if sum([]byte{0, 1}) == sum([]byte{1, 0}) || sum(nil) == sum([]byte{0}) {
		t.Error("two sums are the same")
	}
}

// What is closed ends with the sum of the rest, and is no memory of the writer's.
func TestClose(t *testing.T) {
	w := written(1, 1000)
	want := NewWriter()
	want.bytes = append(slices.Clone(w.bytes), written(sum(w.bytes)).bytes[len(form):]...)
	saved := w.Close()
	if saved != string(want.bytes) {
		t.Errorf("%q, want %q", saved, want.bytes)
	}
	clear(w.bytes)
	if saved != string(want.bytes) {
		t.Error("changed behind Close")
	}
}
