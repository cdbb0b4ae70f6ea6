package queue

import (
	"math/rand"
	"slices"
	"strings"
	"testing"
)

func takeAll[T any](q *Queue[T]) []T {
	var out []T
	for {
		x, some := q.Take()
		if !some {
			return out
		}
		out = append(out, x)
	}
}

func TestGivesOutInOrder(t *testing.T) {
	r := rand.New(rand.NewSource(1))
	for range 500 {
		q := New(func(a, b int) bool { return a < b })
		var want []int
		for range r.Intn(20) {
			n := r.Intn(10)
			q.Put(n)
			want = append(want, n)
		}
		slices.Sort(want)
		if q.Len() != len(want) {
			t.Fatalf("Len %d, want %d", q.Len(), len(want))
		}
		if got := takeAll(q); !slices.Equal(got, want) {
			t.Fatalf("given out %v, want %v", got, want)
		}
	}
}

func TestPutBetweenTakes(t *testing.T) {
	r := rand.New(rand.NewSource(2))
	q := New(func(a, b int) bool { return a > b })
	var waiting []int
	for range 5000 {
		if r.Intn(2) == 0 {
			n := r.Intn(1000)
			q.Put(n)
			waiting = append(waiting, n)
			continue
		}
		first, some := q.First()
		taken, also := q.Take()
		if some != (len(waiting) > 0) || also != some || first != taken {
			t.Fatalf("First %d %v, Take %d %v of %v", first, some, taken, also, waiting)
		}
		if !some {
			continue
		}
		if taken != slices.Max(waiting) {
			t.Fatalf("took %d of %v", taken, waiting)
		}
		at := slices.Index(waiting, taken)
		waiting = slices.Delete(waiting, at, at+1)
	}
}

func TestEmpty(t *testing.T) {
	q := New(func(a, b string) bool { return a < b })
	for range 2 {
		if x, some := q.First(); some || x != "" {
			t.Errorf("First of none: %q %v", x, some)
		}
		if x, some := q.Take(); some || x != "" {
			t.Errorf("Take of none: %q %v", x, some)
		}
		if q.Len() != 0 {
			t.Errorf("Len of none: %d", q.Len())
		}
		q.Put("x")
		q.Take()
	}
}

// One and the same type serves other things and other orders, also two queues at a time.
func TestOrderIsOfTheQueue(t *testing.T) {
	long := New(func(a, b string) bool { return len(a) > len(b) })
	early := New(func(a, b string) bool { return strings.Compare(a, b) < 0 })
	for _, s := range []string{"bb", "a", "ccc"} {
		long.Put(s)
		early.Put(s)
	}
	if got := takeAll(long); !slices.Equal(got, []string{"ccc", "bb", "a"}) {
		t.Errorf("longest first: %v", got)
	}
	if got := takeAll(early); !slices.Equal(got, []string{"a", "bb", "ccc"}) {
		t.Errorf("by letters: %v", got)
	}
}

// All gives out in order, changes nothing and shares nothing with the queue.
func TestAllLeavesTheQueue(t *testing.T) {
	r := rand.New(rand.NewSource(3))
	for range 300 {
		q := New(func(a, b int) bool { return a > b })
		var want []int
		for range r.Intn(12) {
			n := r.Intn(10)
			q.Put(n)
			want = append(want, -n)
		}
		slices.Sort(want)
		for i := range want {
			want[i] = -want[i]
		}
		for range 2 {
			got := q.All()
			if !slices.Equal(got, want) || q.Len() != len(want) {
				t.Fatalf("all are %v, want %v; %d wait", got, want, q.Len())
			}
			all := got[:cap(got)]
			for i := range all {
				all[i] = 1000 + i
			}
		}
		if got := takeAll(q); !slices.Equal(got, want) {
			t.Fatalf("given out behind All: %v, want %v", got, want)
		}
	}
}
