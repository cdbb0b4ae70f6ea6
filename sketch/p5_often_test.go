package sketch_test

import (
	"fmt"
	"math"
	"testing"

	"sketch/api"
)

func often(rows, width, panes, window int, seeds ...[2]int) api.Config {
	c := api.Config{Kind: api.Often, Skew: 10, Cap: 8, Rows: rows, Width: width, Panes: panes, Window: window}
	copy(c.Seeds[:], seeds)
	return c
}

func same() [2]int { return [2]int{1, 0} }

func TestP5OftenCountsKeys(t *testing.T) {
	steps := append(keyed(often(1, 16, 2, 10, same()), 3, 5, 3, 3, 19, 15), good(ask(7, 3), 4), good(ask(7, 19), 4), good(ask(7, 5), 1), good(ask(7, 15), 1), good(ask(7, 31), 1), good(ask(7, 0), 0), good(ask(7, 16), 0))
	check(t, "P5: OFTEN", append(steps, good(stats(7), 6, 6, 0, 0, 0, 0, 0, 0, 0))...)
}

func TestP5OftenOfNone(t *testing.T) {
	check(t, "P5: OFTEN of none", good(create(7, often(2, 4, 2, 10, same(), same()))), good(ask(7, 0), 0), good(ask(7, api.MaxKey), 0), good(add(7, 1, 0, 0), 1), good(ask(7, 0), 0), good(tick(1, 0), 0), good(ask(7, 0), 1))
}

func TestP5OftenKeysThatMayNotBe(t *testing.T) {
	steps := append([]step{bad(ask(7, -1), api.ErrId)}, keyed(often(1, 1, 1, 1, same()), 5, 6)...)
	for _, key := range edges() {
		if key < 0 || key > api.MaxKey {
			steps = append(steps, bad(ask(7, key), api.ErrKey), bad(ask(8, key), api.ErrId))
			continue
		}
		steps = append(steps, good(ask(7, key), 2))
	}
	// A QUERY is no ADD: what it refuses is not counted.
	check(t, "P5: keys that may not be", append(steps, good(stats(7), 2, 2, 0, 0, 0, 0, 0, 0, 0))...)
}

func TestP5OftenAsksNothingOfBAndC(t *testing.T) {
	steps := keyed(often(1, 4, 2, 10, same()), 5, 1)
	for _, n := range edges() {
		steps = append(steps, good(api.Op{Kind: api.Query, Id: 7, A: 9, B: n, C: n, Bytes: "anything", Config: api.Config{Kind: n, Rows: n}}, 2))
	}
	check(t, "P5: OFTEN: B and C", steps...)
}

// Each Row counts by its own pair of Seeds, and the least count is told.
func TestP5TheLeastOfTheRows(t *testing.T) {
	keys := []int{1, 2, 3, 4, 6, 6, 10}
	for rows := 1; rows <= api.MaxRows; rows++ {
		c := often(rows, 4, 1, 10, same(), [2]int{3, 5}, [2]int{api.Prime - 1, 1})
		steps := keyed(c, keys...)
		for key := range 20 {
			least := math.MaxInt
			for r := range rows {
				n := 0
				for _, k := range keys {
					if bigHash(c.Seeds[r], k)%4 == bigHash(c.Seeds[r], key)%4 {
						n++
					}
				}
				least = min(least, n)
			}
			steps = append(steps, good(ask(7, key), least))
		}
		check(t, fmt.Sprint("P5: Rows ", rows), steps...)
	}
	// By multiples of 4 all four keys fall on one place, by Prime - 1 on four, wherever that Row stands.
	for at := range 3 {
		c := often(3, 4, 1, 10, [2]int{4, 0}, [2]int{8, 1}, [2]int{12, 2})
		check(t, "P5: all Rows are full", append(keyed(c, 1, 2, 3, 4), good(ask(7, 1), 4), good(ask(7, 9), 4))...)
		c.Seeds[at] = [2]int{api.Prime - 1, 0}
		check(t, fmt.Sprint("P5: all Rows but ", at), append(keyed(c, 1, 2, 3, 4), good(ask(7, 1), 1), good(ask(7, 9), 1))...)
	}
}

func TestP5SeedsThatAreAlike(t *testing.T) {
	a, b := [2]int{1, 0}, [2]int{4, 0} // by b all keys fall on one place
	for _, seeds := range [][3][2]int{{a, a, a}, {a, a, b}, {a, b, a}, {a, b, b}, {b, a, a}, {b, b, a}, {b, a, b}} {
		check(t, fmt.Sprint("P5: Seeds ", seeds), append(keyed(often(3, 4, 1, 10, seeds[0], seeds[1], seeds[2]), 1, 2, 2), good(ask(7, 1), 1), good(ask(7, 2), 2), good(ask(7, 3), 0))...)
	}
	check(t, "P5: all alike", append(keyed(often(3, 4, 1, 10, b, b, b), 1, 2, 2), good(ask(7, 3), 3))...)
	check(t, "P5: alike but for the second number", append(keyed(often(2, 4, 1, 10, [2]int{1, 1}, [2]int{1, 2}), 1, 2, 2), good(ask(7, 1), 1), good(ask(7, 2), 2))...)
}

// Pairs of Seeds beyond Rows are not asked for.
func TestP5OftenSeedsBeyondRows(t *testing.T) {
	for _, n := range []int{math.MinInt, -1, 0, math.MaxInt} {
		c := often(1, 4, 1, 10, same(), [2]int{n, n}, [2]int{n, n})
		check(t, fmt.Sprint("P5: Seeds beyond Rows ", n), append(keyed(c, 1, 2, 2), good(ask(7, 2), 2))...)
	}
}

func TestP5Widths(t *testing.T) {
	for width := 1; width <= api.MaxWidth; width++ {
		steps := append(keyed(often(1, width, 1, 10, same()), 0, 1, 2, 3, 4, 5, 6, 7), good(tick(2, 0), 0))
		for key := range 40 {
			n := 0
			for k := range 8 {
				if k%width == key%width {
					n++
				}
			}
			steps = append(steps, good(ask(7, key), n))
		}
		check(t, fmt.Sprint("P5: Width ", width), steps...)
	}
}

// One item of each time from 1 on: a pane counts whole as long as one of its times is within Window.
func TestP5PanesCountWhole(t *testing.T) {
	for _, c := range []struct{ panes, window, lag int }{{1, 1, 0}, {1, 6, 0}, {2, 6, 0}, {3, 6, 2}, {6, 6, 0}, {8, 8, 1}, {8, 80, 3}, {5, 1000, 0}} {
		config := often(1, 1, c.panes, c.window, same())
		config.Lag = c.lag
		length, last := c.window/c.panes, 3*c.window+7
		steps := []step{good(create(7, config))}
		for mark := range last + 2*c.window {
			oldest := max(0, mark-c.window+1)
			counted := min(mark, last) - max(1, oldest/length*length) + 1
			steps = append(steps, good(tick(mark+c.lag, 0), 0), good(ask(7, 5), max(0, counted)))
			if mark < last {
				steps = append(steps, good(addAt(7, mark+1), mark+1))
			}
		}
		check(t, fmt.Sprintf("P5: panes: %+v", c), steps...)
	}
}

// Panes with nothing in them, of gaps and of the beginning, count for nothing.
func TestP5PanesWithGaps(t *testing.T) {
	check(t, "P5: gaps", good(create(7, often(1, 4, 4, 12, same()))), good(tick(50, 0), 0), good(ask(7, 1), 0), good(add(7, 51, 1, 0), 1), good(add(7, 59, 1, 0), 2), good(tick(51, 0), 0), good(ask(7, 1), 1), good(tick(59, 0), 0), good(ask(7, 1), 2),
		good(tick(64, 0), 0), good(ask(7, 1), 2), good(tick(65, 0), 0), good(ask(7, 1), 1), good(tick(70, 0), 0), good(ask(7, 1), 1), good(tick(71, 0), 0), good(ask(7, 1), 0), good(add(7, 72, 1, 0), 3), good(tick(72, 0), 0), good(ask(7, 1), 1), good(tick(5000, 0), 0), good(ask(7, 1), 0), good(add(7, 5001, 5, 0), 4), good(tick(5001, 0), 0), good(ask(7, 1), 1), good(ask(7, 2), 0))
}

// Items of several panes that one TICK releases, some of them too old to count.
func TestP5PanesOfOneTick(t *testing.T) {
	c := often(1, 4, 2, 4, same())
	check(t, "P5: one TICK", good(create(7, c)), good(add(7, 9, 1, 0), 1), good(add(7, 1, 1, 0), 2), good(add(7, 3, 1, 0), 3), good(add(7, 5, 1, 0), 4), good(add(7, 6, 2, 0), 5), good(add(7, 8, 1, 0), 6), good(tick(9, 0), 0), good(ask(7, 1), 2), good(ask(7, 2), 1), good(tick(10, 0), 0), good(ask(7, 2), 1), good(tick(11, 0), 0), good(ask(7, 2), 0), good(ask(7, 1), 2))
	check(t, "P5: one TICK, all too old", good(create(7, c)), good(add(7, 1, 1, 0), 1), good(add(7, 3, 1, 0), 2), good(tick(100, 0), 0), good(ask(7, 1), 0), good(add(7, 101, 1, 0), 3), good(tick(101, 0), 0), good(ask(7, 1), 1))
}

func TestP5OftenAtTheEndsOfTime(t *testing.T) {
	const end = api.MaxTime
	c := often(1, 4, 8, 1000, same())
	c.Lag = 100
	check(t, "P5: OFTEN: a watermark below 0", good(create(7, c)), good(ask(7, 1), 0), good(add(7, 0, 1, 0), 1), good(tick(99, 0), 0), good(ask(7, 1), 0), good(tick(100, 0), 0), good(ask(7, 1), 1), good(tick(end, 0), 0), good(ask(7, 1), 0), good(add(7, end-99, 1, 0), 2), good(add(7, end, 1, 0), 3), good(tick(end, 0), 0), good(ask(7, 1), 0))
	for _, panes := range []int{1, 2, 8} {
		check(t, fmt.Sprint("P5: OFTEN: the greatest times, Panes ", panes), good(create(7, often(1, 4, panes, 1000, same()))), good(tick(end-3, 0), 0), good(add(7, end-1, 1, 0), 1), good(add(7, end, 1, 0), 2), good(add(7, end, 2, 0), 3), good(tick(end, 0), 0), good(ask(7, 1), 2), good(ask(7, 2), 1))
	}
}

func TestP5EachSeriesHasItsPanes(t *testing.T) {
	check(t, "P5: two series of OFTEN", good(create(1, often(1, 4, 1, 2, same()))), good(create(2, often(1, 2, 1, 20, same()))), good(add(1, 1, 1, 0), 1), good(add(2, 1, 3, 0), 1), good(add(2, 1, 1, 0), 2), good(tick(1, 0), 0), good(ask(1, 1), 1), good(ask(2, 1), 2), good(ask(1, 3), 0), good(tick(3, 0), 0), good(ask(1, 1), 0), good(ask(2, 1), 2))
}
