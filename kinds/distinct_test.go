package kinds

import (
	"math/rand"
	"slices"
	"testing"

	"sketch/api"
	"sketch/item"
	"sketch/row"
)

// list is what a register keeps, from the oldest mark on.
func list(register *row.Row[mark]) []mark {
	var all []mark
	for place := range register.Len() {
		all = append(all, register.At(place))
	}
	return all
}

func TestRankOf(t *testing.T) {
	for quotient, want := range map[int]int{0: 40, 1: 1, 2: 2, 3: 1, 4: 3, 6: 2, 12: 3, 1 << 38: 39, 1 << 39: 40, 3 << 39: 40, 1 << 40: 40, 1 << 59: 40, 1<<59 + 1: 1, 1<<59 + 1<<38: 39} {
		if got := rankOf(quotient); got != want {
			t.Errorf("the rank of %d: %d, want %d", quotient, got, want)
		}
	}
}

// A register keeps what is the greatest of some window, and no more.
func TestMarksThatAreKept(t *testing.T) {
	for _, c := range []struct{ released, want []mark }{
		{nil, nil},
		{[]mark{{1, 3}}, []mark{{1, 3}}},
		{[]mark{{1, 3}, {2, 2}, {3, 1}}, []mark{{1, 3}, {2, 2}, {3, 1}}},
		{[]mark{{1, 1}, {2, 2}, {3, 3}}, []mark{{3, 3}}},
		{[]mark{{1, 3}, {2, 1}, {3, 2}}, []mark{{1, 3}, {3, 2}}},
		{[]mark{{1, 3}, {2, 2}, {3, 3}}, []mark{{3, 3}}},
		{[]mark{{1, 3}, {1, 2}}, []mark{{1, 3}}},
		{[]mark{{1, 2}, {1, 3}}, []mark{{1, 3}}},
		{[]mark{{1, 3}, {1, 3}}, []mark{{1, 3}}},
		{[]mark{{1, 4}, {2, 2}, {2, 3}, {2, 1}}, []mark{{1, 4}, {2, 3}}},
	} {
		register := row.New(func(x mark) int { return x.time })
		for _, x := range c.released {
			keep(register, x)
		}
		if got := list(register); !slices.Equal(got, c.want) {
			t.Errorf("%v: kept %v, want %v", c.released, got, c.want)
		}
	}
}

// Marks that no window reaches any more go when the next item comes to their register.
func TestRegistersLoseTheirOldest(t *testing.T) {
	n := newDistinct(api.Config{Bits: 1, Window: 5, Seeds: [3][2]int{{1, 0}}})
	for time, key := range []int{16, 8, 4} {
		n.release(item.Item{Time: time + 1, Key: key}, time+1)
	}
	if want := []mark{{1, 4}, {2, 3}, {3, 2}}; !slices.Equal(list(n.registers[0]), want) {
		t.Errorf("kept %v, want %v", list(n.registers[0]), want)
	}
	n.release(item.Item{Time: 7, Key: 2}, 7)
	if want := []mark{{3, 2}, {7, 1}}; !slices.Equal(list(n.registers[0]), want) {
		t.Errorf("by the watermark 7: kept %v, want %v", list(n.registers[0]), want)
	}
	if n.registers[1].Len() != 0 {
		t.Errorf("the other register has %v", list(n.registers[1]))
	}
}

// However many items there are, a register has at most one mark of each rank; times rise and ranks fall.
func TestMarksAreFew(t *testing.T) {
	r := rand.New(rand.NewSource(7))
	n := newDistinct(api.Config{Bits: 2, Window: 1000, Seeds: [3][2]int{{1 << 20, 5}}})
	time := 0
	for range 20000 {
		time += r.Intn(2)
		n.release(item.Item{Time: time, Key: r.Intn(1 << 31)}, time)
		for _, register := range n.registers {
			all := list(register)
			for i := 1; i < len(all); i++ {
				if all[i].time <= all[i-1].time || all[i].rank >= all[i-1].rank {
					t.Fatalf("out of order: %v", all)
				}
			}
		}
	}
}

func TestDistinctQueryLeavesTheNotes(t *testing.T) {
	n := newDistinct(api.Config{Bits: 1, Window: 5, Seeds: [3][2]int{{1, 0}}})
	n.release(item.Item{Time: 1, Key: 5}, 1)
	for _, c := range []struct {
		a, watermark int
		want         []int
	}{{5, 100, []int{0, 0, 1}}, {1, 1, []int{0, 2, 2}}, {5, 5, []int{0, 2, 2}}, {4, 5, []int{0, 0, 1}}} {
		got, code := n.query(c.a, c.watermark)
		if code != api.OK || !slices.Equal(got, c.want) {
			t.Errorf("%+v: %v %d", c, got, code)
		}
		clear(got[:cap(got)])
	}
}
