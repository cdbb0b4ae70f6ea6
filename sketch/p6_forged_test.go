package sketch_test

import (
	"math/rand"
	"slices"
	"testing"

	"sketch/api"
	"sketch/pack"
	"sketch/sketch"
)

const headLength = len("sketch 1")

// numbersOf is what was saved behind the head and ahead of the sum.
func numbersOf(bytes string) []int {
	var list []int
	n, shift := 0, 0
	for _, b := range []byte(bytes[headLength:]) {
		n |= int(b&127) << shift
		shift += 7
		if b < 128 {
			list = append(list, n)
			n, shift = 0, 0
		}
	}
	return list[:len(list)-1]
}

// forged is other numbers, with a head and a sum as they should be.
func forged(numbers []int) string {
	w := pack.NewWriter()
	for _, n := range numbers {
		w.Number(n)
	}
	return w.Close()
}

func TestForgedAsSaved(t *testing.T) {
	bytes := saved(t, fullScript())
	if forged(numbersOf(bytes)) != bytes {
		t.Error("numbers that are not changed make other Bytes")
	}
}

// change is one number more, less or otherwise.
func change(r *rand.Rand, numbers []int) []int {
	list := slices.Clone(numbers)
	at := r.Intn(len(list))
	switch r.Intn(8) {
	case 0:
		return slices.Delete(list, at, at+1)
	case 1:
		return slices.Insert(list, at, r.Intn(5))
	case 2:
		list[at] = max(0, pick(r))
	case 3:
		other := r.Intn(len(list))
		list[at], list[other] = list[other], list[at]
	case 4:
		list[at] *= 2
	case 5:
		list[at]++
	default:
		list[at] = max(0, list[at]-1)
	}
	return list
}

// anyScript has steps of all kinds near a time, for series that it does not know.
func anyScript(r *rand.Rand, clock, length int) []api.Op {
	var script []api.Op
	for len(script) < length {
		for id := range 10 {
			script = append(script, add(id, clock+r.Intn(12)-3, r.Intn(9), 1+r.Intn(9)))
		}
		clock += r.Intn(4)
		script = append(script, tick(min(max(clock, 0), api.MaxTime), r.Intn(3)))
		for id := range 10 {
			script = append(script, ask(id, 1+r.Intn(12)), stats(id))
		}
	}
	return append(script, tick(api.MaxTime, 0))
}

// Bytes that are not what SAVE answers, but have a head and a sum as if they were: refused, or taken for good.
func TestP6ForgedBytes(t *testing.T) {
	r := rand.New(rand.NewSource(17))
	taken, refused := 0, 0
	for range 6000 {
		script := someScript(r, 20+r.Intn(100))
		bytes := saved(t, script)
		list := change(r, numbersOf(bytes))
		if r.Intn(4) == 0 {
			list = change(r, list)
		}
		text := forged(list)
		more := anyScript(r, list[0], 60)
		got := sketch.Run(slices.Concat([]api.Op{load(bytes), load(text), save()}, more))
		if len(got) != len(more)+3 {
			t.Fatalf("P6: %d answers to %d steps", len(got), len(more)+3)
		}
		if got[1].Code != api.OK {
			refused++
			if got[1].Code != api.ErrBytes || got[2].Bytes != bytes {
				t.Fatalf("P6: %v: %+v", list, got[1:3])
			}
			continue
		}
		taken++
		if got[2].Bytes != text {
			t.Fatalf("P6: LOAD takes %v, SAVE answers %v", list, numbersOf(got[2].Bytes))
		}
		goesOn(t, r, text, more)
	}
	if taken < 500 || refused < 500 {
		t.Errorf("%d are taken, %d are refused", taken, refused)
	}
}

// goesOn: a whole that was taken is saved and loaded like any other.
func goesOn(t *testing.T, r *rand.Rand, bytes string, more []api.Op) {
	t.Helper()
	whole := sketch.Run(append([]api.Op{load(bytes)}, more...))[1:]
	at := r.Intn(len(more) + 1)
	middle := saved(t, append([]api.Op{load(bytes)}, more[:at]...))
	got := sketch.Run(append([]api.Op{load(middle)}, more[at:]...))
	if got[0].Code != api.OK || !sameAnswers(got[1:], whole[at:]) {
		t.Fatalf("P6: %v: saved behind %d steps: answered %+v, want %+v", numbersOf(bytes), at, got, whole[at:])
	}
	for i, a := range whole {
		if slices.ContainsFunc(a.Numbers, func(n int) bool { return n < 0 }) {
			t.Fatalf("P6: %v: step %+v is answered with %v", numbersOf(bytes), more[i], a.Numbers)
		}
	}
}

// FuzzP6 plays its seeds as a test; go test -fuzz FuzzP6 ./sketch goes on from there.
func FuzzP6(f *testing.F) {
	r := rand.New(rand.NewSource(18))
	script := fullScript()
	before := sketch.Run(append(slices.Clone(script), save()))[len(script)].Bytes
	f.Add([]byte{}, false)
	f.Add([]byte(before), false)
	for range 5 {
		other := someScript(r, 100)
		bytes := sketch.Run(append(slices.Clone(other), save()))[len(other)].Bytes
		f.Add([]byte(bytes[headLength:]), true)
	}
	f.Fuzz(func(t *testing.T, bytes []byte, behindHead bool) {
		text := string(bytes)
		if behindHead {
			text = "sketch 1" + text
			if list := append(numbersOf(text+"\x00\x00"), 0); len(list) > 1 {
				text = forged(list[:len(list)-1])
			}
		}
		more := anyScript(rand.New(rand.NewSource(1)), 5, 60)
		got := sketch.Run(slices.Concat(script, []api.Op{load(text), save()}, more))[len(script):]
		switch {
		case got[0].Code == api.OK && got[1].Bytes != text:
			t.Errorf("P6: LOAD takes %q, SAVE answers %q", text, got[1].Bytes)
		case got[0].Code != api.OK && (got[0].Code != api.ErrBytes || got[1].Bytes != before):
			t.Errorf("P6: %q: %+v", text, got[:2])
		}
	})
}
