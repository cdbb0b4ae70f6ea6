package kinds

import (
	"math/rand"
	"slices"
	"testing"

	"sketch/api"
	"sketch/item"
)

// numbers is of the panes that are kept, from the oldest on; the last one is open.
func (n *oftenNotes) numbers() []int {
	var all []int
	for place := range n.closed.Len() {
		all = append(all, n.closed.At(place).number)
	}
	return append(all, n.open.number)
}

func someOften() *oftenNotes {
	return newOften(api.Config{Rows: 2, Width: 3, Panes: 4, Window: 12, Seeds: [3][2]int{{1, 0}, {1, 1}}})
}

// Rows whose seeds are alike have the same places, as if each were hashed by itself.
func TestPlacesOfEachRow(t *testing.T) {
	a, b := [2]int{1, 0}, [2]int{3, 5}
	for _, seeds := range [][3][2]int{{a, a, a}, {a, a, b}, {a, b, a}, {a, b, b}, {b, b, b}} {
		for rows := 1; rows <= api.MaxRows; rows++ {
			n := newOften(api.Config{Rows: rows, Width: 7, Panes: 1, Window: 1, Seeds: seeds})
			for key := range 20 {
				var want [api.MaxRows]int
				for r := range rows {
					want[r] = (seeds[r][0]*key + seeds[r][1]) % 7
				}
				if got := n.places(key); got != want {
					t.Errorf("Rows %d, Seeds %v: the key %d falls on %v, want %v", rows, seeds, key, got, want)
				}
			}
		}
	}
}

func TestPanesThatAreKept(t *testing.T) {
	n := someOften()
	for _, c := range []struct {
		time, watermark int
		want            []int
	}{
		{4, 4, []int{1}}, // pane 0 is empty: it is not kept
		{5, 5, []int{1}}, {6, 6, []int{1, 2}}, {14, 14, []int{1, 2, 4}}, {16, 17, []int{2, 4, 5}}, {20, 21, []int{4, 5, 6}}, {21, 100, []int{7}}, {1000, 1000, []int{333}},
	} {
		n.release(item.Item{Time: c.time}, c.watermark)
		if got := n.numbers(); !slices.Equal(got, c.want) {
			t.Errorf("behind the time %d, watermark %d: panes %v, want %v", c.time, c.watermark, got, c.want)
		}
	}
}

func TestPaneCounts(t *testing.T) {
	n := someOften()
	for _, x := range []item.Item{{Time: 3, Key: 0}, {Time: 4, Key: 4}, {Time: 6, Key: 5}, {Time: 7, Key: 2}, {Time: 8, Key: 5}} {
		n.release(x, x.Time)
	}
	first, second := cells{{1, 1, 0}, {0, 1, 1}}, cells{{0, 0, 3}, {3, 0, 0}}
	if n.closed.Len() != 1 || n.closed.At(0) != (pane{1, first}) || n.open != (pane{2, second}) {
		t.Errorf("panes %v, %+v", n.numbers(), n.open)
	}
	if got, want := n.counted(-8), (cells{{1, 1, 3}, {3, 1, 1}}); got != want {
		t.Errorf("counted %v, want %v", got, want)
	}
	if got := n.counted(5); got != second {
		t.Errorf("counted above 5: %v, want %v", got, second)
	}
	if got := n.counted(8); got != (cells{}) {
		t.Errorf("counted above 8: %v, want none", got)
	}
}

func TestOftenQueryLeavesTheNotes(t *testing.T) {
	n := someOften()
	n.release(item.Item{Time: 4, Key: 1}, 4)
	for _, c := range []struct{ key, watermark, want int }{{1, 100, 0}, {1, 4, 1}, {0, 4, 0}, {1, 16, 1}, {4, 16, 1}, {1, 17, 0}} {
		if got, code := n.query(c.key, c.watermark); code != api.OK || !slices.Equal(got, []int{c.want}) {
			t.Errorf("%+v: %v %d", c, got, code)
		}
	}
}

// Beside the open pane only those are kept that have a time within Window: there are at most as many as Panes.
func TestPanesAreFew(t *testing.T) {
	r := rand.New(rand.NewSource(8))
	for panes := 1; panes <= api.MaxPanes; panes++ {
		n := newOften(api.Config{Rows: 1, Width: 1, Panes: panes, Window: 3 * panes, Seeds: [3][2]int{{1, 0}}})
		time := 0
		for range 3000 {
			time += r.Intn(4)
			n.release(item.Item{Time: time}, time+r.Intn(2))
			if n.closed.Len() > panes {
				t.Fatalf("Panes %d: kept %v", panes, n.numbers())
			}
			if all := n.numbers(); !slices.IsSorted(all) || len(slices.Compact(all)) != n.closed.Len()+1 {
				t.Fatalf("Panes %d: out of order: %v", panes, all)
			}
		}
	}
}
