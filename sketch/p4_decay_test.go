package sketch_test

import (
	"fmt"
	"math"
	"testing"

	"sketch/api"
)

func decay(degree, half, mark int) api.Config {
	return api.Config{Kind: api.Decay, Skew: 10, Cap: 8, Degree: degree, Half: half, Mark: mark}
}

// Example 3, and its items in another order.
func TestP4DecayExample(t *testing.T) {
	for _, times := range [][3]int{{1, 2, 4}, {4, 2, 1}, {2, 4, 1}} {
		for _, c := range []struct {
			config api.Config
			want   [3]int
		}{
			{decay(2, 0, 0), [3]int{0, 38, 25}}, {decay(0, 2, 0), [3]int{0, 7, 4}}, {decay(3, 2, 0), [3]int{0, 7, 4}}, {decay(0, 0, 0), [3]int{0, 3, 1}}, {decay(1, 0, 0), [3]int{0, 10, 5}}, {decay(3, 0, 0), [3]int{0, 8 + 27 + 125, 125}}, {decay(3, 1, 0), [3]int{0, 2 + 4 + 16, 16}}, {decay(2, 0, 1), [3]int{0, 1 + 4 + 16, 16}}, {decay(0, 3, 1), [3]int{0, 1 + 1 + 2, 2}}, {decay(0, 100, 0), [3]int{0, 3, 1}},
		} {
			check(t, fmt.Sprintf("P4: DECAY of %v by %+v", times, c.config), good(create(7, c.config)), good(addAt(7, times[0]), 1), good(addAt(7, times[1]), 2), good(addAt(7, times[2]), 3), good(tick(4, 0), 0), good(query(7), c.want[:]...))
		}
	}
}

// The greatest time that has a weight, the weight, and one more: there is none.
func TestP4DecayGreatestWeights(t *testing.T) {
	const root, cube = 1518500249, 1321122 // the greatest whose square, whose third power is at most MaxWeight
	for _, c := range []struct {
		degree, half int
		last, weight int
	}{
		{1, 0, 1<<61 - 1, 1 << 61}, {2, 0, root - 1, root * root}, {3, 0, cube - 1, cube * cube * cube},
		{0, 1, 61, 1 << 61}, {3, 2, 123, 1 << 61}, {0, 99, 99*62 - 1, 1 << 61}, {1, 100, 6199, 1 << 61},
	} {
		for _, mark := range []int{0, 1, 1000} {
			last := mark + c.last
			check(t, fmt.Sprintf("P4: DECAY: the greatest weight: %+v, Mark %d", c, mark), good(create(7, decay(c.degree, c.half, mark))),
				good(tick(last-5, 0), 0), good(addAt(7, last), 1), bad(addAt(7, last+1), api.ErrHorizon), bad(addAt(7, last+5), api.ErrHorizon),
				good(tick(last, 0), 0), good(query(7), c.weight>>61, c.weight%(1<<61), c.weight), bad(addAt(7, last+1), api.ErrHorizon),
				good(tick(last+1, 0), 0), good(query(7), c.weight>>61, c.weight%(1<<61), 0),
				good(tick(api.MaxTime, 0), 0), good(query(7), c.weight>>61, c.weight%(1<<61), 0),
				good(stats(7), 1, 1, 0, 0, 0, 3, 0, 0, 0))
		}
	}
}

func TestP4DecayAtTheGreatestTimes(t *testing.T) {
	const end = api.MaxTime
	for _, c := range []struct {
		config api.Config
		want   []int
	}{
		{decay(0, 0, 0), []int{0, 1, 1}}, {decay(3, 0, end), []int{0, 1, 1}}, {decay(3, 0, end-1), []int{0, 8, 8}}, {decay(0, 100, end), []int{0, 1, 1}}, {decay(0, 1, end-3), []int{0, 8, 8}}, {decay(1, 0, end/2), nil}, {decay(1, 0, end/2+1), []int{1, 0, 1 << 61}}, {decay(2, 0, 0), nil}, {decay(3, 0, 0), nil}, {decay(0, 1, 0), nil}, {decay(0, 100, 0), nil},
	} {
		steps := []step{good(create(7, c.config)), good(tick(end-9, 0), 0)}
		if c.want == nil {
			steps = append(steps, bad(addAt(7, end), api.ErrHorizon), good(tick(end, 0), 0), good(query(7), 0, 0, 0))
		} else {
			steps = append(steps, good(addAt(7, end), 1), good(tick(end, 0), 0), good(query(7), c.want...))
		}
		check(t, fmt.Sprintf("P4: DECAY: the greatest time: %+v", c.config), steps...)
	}
}

func TestP4DecayAtMark(t *testing.T) {
	for _, half := range []int{0, 1, 7} {
		check(t, fmt.Sprint("P4: DECAY: Mark, Half ", half), good(create(7, decay(1, half, 20))), good(tick(15, 0), 0), good(query(7), 0, 0, 0),
			bad(addAt(7, 19), api.ErrHorizon), good(addAt(7, 20), 1), good(tick(19, 0), 0), good(query(7), 0, 0, 0), good(tick(20, 0), 0), good(query(7), 0, 1, 1), good(stats(7), 1, 1, 0, 0, 0, 1, 0, 0, 0))
	}
}

// The weight is that of the watermark, not of the clock; below 0 there is none, also with the Mark 0.
func TestP4DecayWatermarkWithLag(t *testing.T) {
	for _, c := range []struct{ degree, half int }{{0, 0}, {1, 0}, {3, 0}, {0, 1}, {0, 100}} {
		config := decay(c.degree, c.half, 0)
		config.Lag = 3
		check(t, fmt.Sprintf("P4: DECAY: watermarks below 0: %+v", c), good(create(7, config)), good(query(7), 0, 0, 0), good(tick(2, 0), 0), good(query(7), 0, 0, 0), good(tick(3, 0), 0), good(query(7), 0, 0, 1))
	}
	config := decay(2, 0, 0)
	config.Lag = 3
	check(t, "P4: DECAY: Lag", good(create(7, config)), good(addAt(7, 2), 1), good(addAt(7, 4), 2), good(tick(6, 0), 0), good(query(7), 0, 9, 16), good(tick(7, 0), 0), good(query(7), 0, 34, 25))
}

// Items keep the weight of their own time, however late they are released; those in the buffer do not count.
func TestP4DecayOfItemsReleasedLate(t *testing.T) {
	check(t, "P4: DECAY: released late", good(create(7, decay(1, 0, 0))), good(addAt(7, 10), 1), good(addAt(7, 1), 2), good(tick(9, 0), 0), good(query(7), 0, 2, 10), good(tick(1000, 0), 0), good(query(7), 0, 13, 1001), good(query(7), 0, 13, 1001))
}

func TestP4DecaySumsAboveMaxWeight(t *testing.T) {
	check(t, "P4: DECAY: a sum of just MaxWeight", good(create(7, decay(0, 1, 0))), good(tick(55, 0), 0), good(addAt(7, 60), 1), good(addAt(7, 60), 2), good(addAt(7, 59), 3), good(tick(59, 0), 0), good(query(7), 0, 1<<59, 1<<59), good(tick(60, 0), 0), good(query(7), 1, 1<<59, 1<<60))
	steps := []step{good(create(7, decay(0, 1, 0))), good(tick(60, 0), 0), good(create(8, decay(0, 1, 55)))}
	for n := range 8 {
		steps = append(steps, good(addAt(7, 61), n+1))
	}
	steps = append(steps, good(addAt(8, 61), 1), good(tick(61, 0), 0), good(query(7), 8, 0, 1<<61), good(query(8), 0, 64, 64))
	check(t, "P4: DECAY: sums above MaxWeight", steps...)
}

// More items of the weight MaxWeight than an int, or a word without sign, could hold the sum of; then one of half of that, twice.
func TestP4DecaySumsAboveAnInt(t *testing.T) {
	c := decay(0, 100, 0) // from 6100 to 6199 the weight is MaxWeight
	steps := []step{good(create(7, c)), good(tick(6098, 0), 0), good(addAt(7, 6099), 1), good(addAt(7, 6099), 2), good(tick(6099, 0), 0), good(query(7), 1, 0, 1<<60), good(addAt(7, 6100), 3), good(tick(6100, 0), 0), good(query(7), 2, 0, 1<<61)}
	number := 3
	for time := 6101; time < 6200; time++ {
		for range 8 {
			number++
			steps = append(steps, good(addAt(7, time), number))
		}
		steps = append(steps, good(tick(time, 0), 0), good(query(7), number-1, 0, 1<<61))
	}
	check(t, "P4: DECAY: sums above an int", steps...)
}

func TestP4DecayAsksNothingOfAAndB(t *testing.T) {
	steps := []step{good(create(7, decay(1, 0, 0))), good(add(7, 1, math.MinInt, math.MaxInt), 1), good(tick(1, 0), 0)}
	for _, n := range edges() {
		steps = append(steps, good(api.Op{Kind: api.Query, Id: 7, A: n, B: n, C: n}, 0, 2, 2))
	}
	check(t, "P4: DECAY: A and B", append(steps, bad(query(8), api.ErrId))...)
}
