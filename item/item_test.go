package item

import (
	"slices"
	"testing"
)

func TestAhead(t *testing.T) {
	inOrder := []Item{{Time: 0, Number: 9}, {Time: 1, Number: 2}, {Time: 1, Number: 3}, {Time: 2, Number: 1}, {Time: 1 << 62, Number: 4}}
	for i, a := range inOrder {
		for j, b := range inOrder {
			if Ahead(a, b) != (i < j) {
				t.Errorf("Ahead(%v, %v) is %v", a, b, Ahead(a, b))
			}
		}
	}
}

// Neither the key nor the draw has a say.
func TestAheadIgnoresKeyAndDraw(t *testing.T) {
	a, b := Item{Time: 1, Key: 9, Draw: 9, Number: 1}, Item{Time: 1, Key: 1, Draw: 1, Number: 2}
	if !Ahead(a, b) || slices.Contains([]bool{Ahead(b, a), Ahead(a, a)}, true) {
		t.Error("the key or the draw has a say in the order")
	}
}
