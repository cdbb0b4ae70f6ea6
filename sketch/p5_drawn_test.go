package sketch_test

import (
	"fmt"
	"slices"
	"testing"

	"sketch/api"
)

func drawn(size, degree, half, mark int) api.Config {
	return api.Config{Kind: api.Drawn, Skew: 100, Cap: 8, Size: size, Degree: degree, Half: half, Mark: mark}
}

// thrown is a new series 7 with these items (time, key, draw), all released by one TICK.
func thrown(c api.Config, items ...[3]int) []step {
	steps := []step{good(create(7, c))}
	last := 0
	for i, x := range items {
		steps = append(steps, good(add(7, x[0], x[1], x[2]), i+1))
		last = max(last, x[0])
	}
	return append(steps, good(tick(last+c.Lag, 0), 0))
}

func TestP5Example4(t *testing.T) {
	check(t, "P5: example 4", append(thrown(drawn(1, 1, 0, 0), [3]int{1, 5, 4}, [3]int{3, 6, 8}, [3]int{3, 7, 2}), good(query(7), 3, 7, 2, 2, 4))...)
	check(t, "P5: example 4, Size 2", append(thrown(drawn(2, 1, 0, 0), [3]int{1, 5, 4}, [3]int{3, 6, 8}, [3]int{3, 7, 2}), good(query(7), 3, 7, 2, 1, 5, 4, 4, 8))...)
	check(t, "P5: example 4, Size 3", append(thrown(drawn(3, 1, 0, 0), [3]int{1, 5, 4}, [3]int{3, 6, 8}, [3]int{3, 7, 2}), good(query(7), 3, 7, 2, 1, 5, 4, 3, 6, 8, 0, 0))...)
}

func TestP5DrawnOfFew(t *testing.T) {
	for size := 1; size <= api.MaxSize; size++ {
		steps := []step{good(create(7, drawn(size, 0, 0, 0))), good(query(7), 0, 0)}
		var first []int
		with := func(more ...int) []int { return slices.Concat(first, more) }
		for n := 1; n <= size; n++ {
			first = append(first, n, 10*n, n)
			steps = append(steps, good(add(7, n, 10*n, n), n), good(tick(n, 0), 0), good(query(7), with(0, 0)...))
		}
		for n := size + 1; n < size+4; n++ {
			steps = append(steps, good(add(7, n, 10*n, n), n), good(tick(n, 0), 0), good(query(7), with(1, size+1)...))
		}
		check(t, fmt.Sprint("P5: few items, Size ", size), steps...)
	}
}

// Of quotients that are the same the lesser number goes ahead, also if it is released later.
func TestP5TiesGoByNumber(t *testing.T) {
	check(t, "P5: ties, the lesser number later", append(thrown(drawn(1, 1, 0, 0), [3]int{3, 6, 8}, [3]int{1, 5, 4}), good(query(7), 3, 6, 8, 2, 4))...)
	check(t, "P5: ties, the lesser number first", append(thrown(drawn(1, 1, 0, 0), [3]int{1, 5, 4}, [3]int{3, 6, 8}), good(query(7), 1, 5, 4, 4, 8))...)
	check(t, "P5: ties, TICK by TICK", good(create(7, drawn(2, 1, 0, 0))), good(add(7, 5, 1, 3), 1), good(add(7, 3, 2, 2), 2), good(add(7, 1, 3, 1), 3), good(tick(1, 0), 0), good(query(7), 1, 3, 1, 0, 0), good(tick(3, 0), 0), good(query(7), 3, 2, 2, 1, 3, 1, 0, 0), good(tick(5, 0), 0), good(query(7), 5, 1, 3, 3, 2, 2, 2, 1))
	var items [][3]int
	for n := range 8 {
		items = append(items, [3]int{1, n, 7})
	}
	check(t, "P5: all alike", append(thrown(drawn(5, 0, 0, 0), items...), good(query(7), 1, 0, 7, 1, 1, 7, 1, 2, 7, 1, 3, 7, 1, 4, 7, 1, 7))...)
}

// The next one is the first beyond Size; it is told by its weight and its draw.
func TestP5TheNextOne(t *testing.T) {
	check(t, "P5: the next one", append(thrown(drawn(1, 0, 0, 0), [3]int{1, 1, 9}, [3]int{1, 2, 5}, [3]int{1, 3, 5}, [3]int{1, 4, 7}), good(query(7), 1, 2, 5, 1, 5))...)
	check(t, "P5: the next one is one that was first", append(thrown(drawn(1, 0, 1, 0), [3]int{1, 1, 1}, [3]int{2, 2, 1}, [3]int{3, 3, 1}), good(query(7), 3, 3, 1, 4, 1))...)
	check(t, "P5: the weight of the next one", append(thrown(drawn(1, 3, 0, 0), [3]int{4, 1, 1}, [3]int{6, 2, 1}, [3]int{2, 3, 1}), good(query(7), 6, 2, 1, 125, 1))...)
}

func TestP5WeightsOfTheDraw(t *testing.T) {
	a, b := [3]int{3, 1, 5}, [3]int{9, 2, 10} // by Degree 0: 1/5, 1/10; Degree 1: 4/5, 10/10; Half 2: 2/5, 16/10; Half 5: 1/5, 2/10
	for _, c := range []struct {
		config api.Config
		want   []int
	}{
		{drawn(1, 0, 0, 0), []int{3, 1, 5, 1, 10}}, {drawn(1, 1, 0, 0), []int{9, 2, 10, 4, 5}}, {drawn(1, 0, 2, 0), []int{9, 2, 10, 2, 5}}, {drawn(1, 3, 5, 0), []int{3, 1, 5, 2, 10}}, {drawn(1, 1, 0, 3), []int{9, 2, 10, 1, 5}}, {drawn(1, 2, 0, 2), []int{9, 2, 10, 4, 5}}, {drawn(1, 0, 100, 0), []int{3, 1, 5, 1, 10}},
	} {
		check(t, fmt.Sprintf("P5: weights: %+v", c.config), append(thrown(c.config, a, b), good(query(7), c.want...))...)
	}
}

// Fractions that no float tells apart, and products far above 2 to the 64.
func TestP5GreatFractions(t *testing.T) {
	const top = 1<<61 - 1 // the time with the weight MaxWeight, by Degree 1
	from := []step{good(create(7, drawn(1, 1, 0, 0))), good(tick(top-50, 0), 0)}
	played := func(what string, items [2][3]int, want ...int) {
		t.Helper()
		steps := append([]step{}, from...)
		for i, x := range items {
			steps = append(steps, good(add(7, x[0], x[1], x[2]), i+1))
		}
		check(t, "P5: "+what, append(steps, good(tick(top, 0), 0), good(query(7), want...))...)
	}
	played("weights one apart", [2][3]int{{top - 1, 1, api.MaxDraw}, {top, 2, api.MaxDraw}}, top, 2, api.MaxDraw, 1<<61-1, api.MaxDraw)
	played("weights one apart, the greater one first", [2][3]int{{top, 1, api.MaxDraw}, {top - 1, 2, api.MaxDraw}}, top, 1, api.MaxDraw, 1<<61-1, api.MaxDraw)
	played("draws one apart", [2][3]int{{top, 1, api.MaxDraw}, {top, 2, api.MaxDraw - 1}}, top, 2, api.MaxDraw-1, 1<<61, api.MaxDraw)
	played("draws one apart, the lesser one first", [2][3]int{{top, 1, api.MaxDraw - 1}, {top, 2, api.MaxDraw}}, top, 1, api.MaxDraw-1, 1<<61, api.MaxDraw)
	played("draw 1", [2][3]int{{top, 1, 2}, {top - 50 + 1, 2, 1}}, top-49, 2, 1, 1<<61, 2)
	// 2 to the 61 by 2 to the 31 and 2 to the 60 by 2 to the 30 are the same.
	doubled := drawn(1, 0, 1, 0)
	check(t, "P5: great fractions that are the same", append(thrown(doubled, [3]int{61, 1, api.MaxDraw}, [3]int{60, 2, api.MaxDraw / 2}), good(query(7), 61, 1, api.MaxDraw, 1<<60, 1<<30))...)
	check(t, "P5: great fractions that are the same, by number", append(thrown(doubled, [3]int{60, 2, api.MaxDraw / 2}, [3]int{61, 1, api.MaxDraw}), good(query(7), 60, 2, api.MaxDraw/2, 1<<61, api.MaxDraw))...)
	check(t, "P5: a product whose low word is the lesser one", append(thrown(doubled, [3]int{61, 1, 9}, [3]int{57, 2, 1}), good(query(7), 61, 1, 9, 1<<57, 1))...)
}

func TestP5KeysAndDrawsAsTheyCame(t *testing.T) {
	check(t, "P5: the edges of keys and draws", append(thrown(drawn(3, 0, 0, 0), [3]int{1, 0, 1}, [3]int{2, api.MaxKey, api.MaxDraw}, [3]int{3, 1, 2}), good(query(7), 1, 0, 1, 3, 1, 2, 2, api.MaxKey, api.MaxDraw, 0, 0))...)
}

// Neither time nor what waits, is refused or asked changes what is told.
func TestP5DrawnChangesOnlyByReleases(t *testing.T) {
	c := drawn(2, 1, 0, 0)
	c.Lag = 5
	told := []int{4, 1, 2, 3, 2, 3, 2, 9}
	steps := append(thrown(c, [3]int{3, 2, 3}, [3]int{1, 3, 9}, [3]int{4, 1, 2}), good(query(7), told...))
	for _, between := range []step{
		good(tick(9, 0), 0), good(tick(9, 100), 0), good(add(7, 50, 9, 1), 4), good(query(7), told...), bad(add(7, 1, 1, 1), api.ErrLate), bad(add(7, 20, -1, 1), api.ErrKey), bad(add(7, 20, 1, 0), api.ErrDraw), bad(add(7, 999, 1, 1), api.ErrFuture), good(create(8, c)), good(add(8, 20, 1, 1), 1), good(tick(30, 7), 0), good(stats(7), 4, 3, 0, 1, 1, 0, 1, 1, 0), bad(create(7, c), api.ErrId), good(tick(54, 0), 0),
	} {
		steps = append(steps, between, good(query(7), told...))
	}
	check(t, "P5: nothing but releases", append(steps, good(tick(55, 0), 0), good(query(7), 50, 9, 1, 4, 1, 2, 4, 3), good(tick(api.MaxTime, 0), 0), good(query(7), 50, 9, 1, 4, 1, 2, 4, 3), good(query(8), 20, 1, 1, 0, 0))...)
}

func TestP5DrawnAsksNothingOfAAndB(t *testing.T) {
	steps := append([]step{bad(query(7), api.ErrId)}, thrown(drawn(1, 1, 0, 0), [3]int{1, 5, 4})...)
	for _, n := range edges() {
		steps = append(steps, good(api.Op{Kind: api.Query, Id: 7, A: n, B: n, C: n, Bytes: "anything", Config: api.Config{Kind: n, Size: n}}, 1, 5, 4, 0, 0))
	}
	check(t, "P5: DRAWN: A and B", append(steps, bad(query(8), api.ErrId))...)
}

func TestP5DrawnAtTheGreatestTimes(t *testing.T) {
	const end = api.MaxTime
	check(t, "P5: DRAWN: the greatest times", good(create(7, drawn(1, 3, 0, end-1))), good(tick(end-3, 0), 0), bad(add(7, end-2, 1, 1), api.ErrHorizon), good(add(7, end-1, 1, 1), 1), good(add(7, end, 2, 7), 2), good(tick(end, 0), 0), good(query(7), end, 2, 7, 1, 1))
}
