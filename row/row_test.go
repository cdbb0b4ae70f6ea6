package row

import (
	"math/rand"
	"slices"
	"testing"
)

type stamped struct {
	time int
	name string
}

func named(times ...int) *Row[stamped] {
	r := New(func(x stamped) int { return x.time })
	for i, time := range times {
		r.Put(stamped{time, string(rune('a' + i))})
	}
	return r
}

func names(r *Row[stamped]) string {
	all := ""
	for place := range r.Len() {
		all += r.At(place).name
	}
	return all
}

func TestEmptyRow(t *testing.T) {
	r := named()
	if r.Len() != 0 || r.Past(100) != 0 || r.Past(-100) != 0 {
		t.Errorf("Len %d, Past %d %d", r.Len(), r.Past(100), r.Past(-100))
	}
	r.Lose(0)
	r.Put(stamped{1, "x"})
	r.Lose(1)
	if r.Len() != 0 {
		t.Errorf("Len %d of a row that lost all", r.Len())
	}
}

func TestPast(t *testing.T) {
	r := named(-3, 2, 2, 5)
	for time, want := range map[int]int{-4: 0, -3: 1, 1: 1, 2: 3, 4: 3, 5: 4, 6: 4} {
		if got := r.Past(time); got != want {
			t.Errorf("up to %d: %d, want %d", time, got, want)
		}
	}
	if names(r) != "abcd" {
		t.Errorf("asking left %q", names(r))
	}
}

func TestLosesTheOldest(t *testing.T) {
	for n, want := range []string{"abcd", "bcd", "cd", "d", ""} {
		r := named(1, 2, 2, 5)
		r.Lose(n)
		if names(r) != want {
			t.Errorf("behind the loss of %d: %q, want %q", n, names(r), want)
		}
		r.Put(stamped{7, "z"})
		if names(r) != want+"z" || r.Past(6) != len(want) {
			t.Errorf("and one more: %q, %d are past", names(r), r.Past(6))
		}
	}
}

func TestDropsTheNewest(t *testing.T) {
	for n, want := range []string{"abcd", "abc", "ab", "a", ""} {
		r := named(1, 2, 2, 5)
		r.Drop(n)
		if names(r) != want || r.Len() != len(want) {
			t.Errorf("behind the loss of the %d newest: %q, want %q", n, names(r), want)
		}
		r.Put(stamped{7, "z"})
		if names(r) != want+"z" || r.Past(6) != len(want) {
			t.Errorf("and one more: %q, %d are past", names(r), r.Past(6))
		}
	}
}

func TestJoin(t *testing.T) {
	for place, want := range []string{"XYcd", "aXYd", "abXY"} {
		r := named(1, 2, 2, 5)
		r.Join(place, stamped{2, "XY"})
		if names(r) != want || r.Len() != 3 {
			t.Errorf("joined at %d: %q, want %q", place, names(r), want)
		}
	}
}

// One type serves other things and other times; rows share nothing.
func TestTimesAreOfTheRow(t *testing.T) {
	forward, back := New(func(n int) int { return n }), New(func(n int) int { return -n })
	for n := range 6 {
		forward.Put(n)
		back.Put(5 - n)
	}
	forward.Lose(forward.Past(2))
	back.Lose(back.Past(-2))
	if forward.Len() != 3 || forward.At(0) != 3 || back.Len() != 2 || back.At(0) != 1 {
		t.Errorf("left are %v and %v", forward.list, back.list)
	}
}

func TestLikeAPlainSlice(t *testing.T) {
	rnd := rand.New(rand.NewSource(5))
	r := New(func(n int) int { return n })
	var want []int
	for next := range 5000 {
		switch rnd.Intn(6) {
		case 0:
			n := r.Past(next - 1 - rnd.Intn(20))
			r.Lose(n)
			want = want[n:]
		case 1:
			if len(want) >= 2 {
				at := rnd.Intn(len(want) - 1)
				r.Join(at, want[at+1])
				want = slices.Delete(slices.Clone(want), at, at+1)
			}
		case 2:
			n := min(rnd.Intn(3), len(want))
			r.Drop(n)
			want = want[:len(want)-n]
		default:
			r.Put(next)
			want = append(slices.Clone(want), next)
		}
		if !slices.Equal(r.list, want) || r.Len() != len(want) {
			t.Fatalf("%v, want %v", r.list, want)
		}
	}
}
