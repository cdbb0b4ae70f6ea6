package kinds

import (
	"math/big"
	"math/rand"
	"slices"
	"testing"

	"sketch/api"
	"sketch/item"
)

func someTicket(r *rand.Rand) ticket {
	draws := []int{1 + r.Intn(4), api.MaxDraw - r.Intn(3), 1 + r.Intn(api.MaxDraw)}
	weights := []int{1 + r.Intn(4), api.MaxWeight - r.Intn(3), 1 << r.Intn(62)}
	return ticket{item: item.Item{Draw: draws[r.Intn(3)], Number: 1 + r.Intn(3)}, weight: weights[r.Intn(3)]}
}

func TestAheadAsFractions(t *testing.T) {
	r := rand.New(rand.NewSource(9))
	ties := 0
	for range 20000 {
		a, b := someTicket(r), someTicket(r)
		order := big.NewRat(int64(a.weight), int64(a.item.Draw)).Cmp(big.NewRat(int64(b.weight), int64(b.item.Draw)))
		want := order > 0
		if order == 0 {
			ties++
			want = a.item.Number < b.item.Number
		}
		if ahead(a, b) != want || behind(b, a) != want {
			t.Fatalf("%+v ahead of %+v: %v, %v, want %v", a, b, ahead(a, b), behind(b, a), want)
		}
	}
	if ties < 100 {
		t.Errorf("only %d ties", ties)
	}
}

// The draw keeps one more than Size, whatever is released.
func TestTicketsAreFew(t *testing.T) {
	r := rand.New(rand.NewSource(10))
	for size := 1; size <= api.MaxSize; size++ {
		n := newDrawn(api.Config{Size: size, Degree: 1})
		for number := 1; number <= 500; number++ {
			n.release(item.Item{Time: number, Draw: 1 + r.Intn(50), Number: number}, number)
			if n.draw.Len() != min(number, size+1) {
				t.Fatalf("Size %d: %d tickets behind %d items", size, n.draw.Len(), number)
			}
		}
	}
}

func TestDrawnQueryLeavesTheNotes(t *testing.T) {
	n := newDrawn(api.Config{Size: 2})
	for number, draw := range []int{9, 3, 6, 12} {
		n.release(item.Item{Time: number, Key: 10 * draw, Draw: draw, Number: number + 1}, number)
	}
	for range 3 {
		got, code := n.query(0, 0)
		if code != api.OK || !slices.Equal(got, []int{1, 30, 3, 2, 60, 6, 1, 9}) {
			t.Errorf("%v %d", got, code)
		}
		clear(got[:cap(got)])
	}
}
