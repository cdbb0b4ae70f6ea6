package sketch_test

import (
	"math"
	"testing"

	"sketch/api"
)

func TestP3TickLimits(t *testing.T) {
	check(t, "P3: TICK",
		bad(tick(-1, 0), api.ErrTime), bad(tick(math.MinInt, 0), api.ErrTime), bad(tick(api.MaxTime+1, 0), api.ErrTime), bad(tick(math.MaxInt, 0), api.ErrTime),
		bad(tick(-1, -1), api.ErrTime), bad(tick(api.MaxTime+1, 101), api.ErrTime),
		bad(tick(0, -1), api.ErrBudget), bad(tick(0, 101), api.ErrBudget), bad(tick(0, math.MinInt), api.ErrBudget), bad(tick(0, math.MaxInt), api.ErrBudget),
		good(tick(0, 0), 0), good(tick(0, 100), 0), good(tick(api.MaxTime, 1), 0))
}

func TestP3RefusedTicksLeaveTheClock(t *testing.T) {
	check(t, "P3: refused TICKs", good(create(7, base(api.Count))), good(addAt(7, 1), 1),
		bad(tick(50, -1), api.ErrBudget), bad(tick(50, 101), api.ErrBudget), bad(tick(api.MaxTime+1, 0), api.ErrTime), bad(tick(-1, 0), api.ErrTime),
		good(stats(7), 1, 0, 0, 0, 0, 0, 0, 0, 0), good(addAt(7, 0), 2), bad(addAt(7, 6), api.ErrFuture))
}

// Example 8.
func TestP3TheClockDoesNotGoBack(t *testing.T) {
	check(t, "P3: the clock stays", good(create(7, base(api.Count))),
		good(tick(5, 0), 0), good(tick(3, 0), 0), bad(addAt(7, 3), api.ErrLate), good(addAt(7, 4), 1), good(addAt(7, 10), 2), bad(addAt(7, 11), api.ErrFuture),
		good(tick(0, 0), 0), bad(addAt(7, 3), api.ErrLate), good(tick(6, 0), 0), good(stats(7), 2, 1, 0, 2, 1, 0, 0, 0, 0))
}

func TestP3ReleaseAtTheWatermark(t *testing.T) {
	check(t, "P3: release", good(create(7, base(api.Count))), // Lag 2
		good(addAt(7, 5), 1), good(addAt(7, 3), 2), good(addAt(7, 4), 3), good(addAt(7, 3), 4),
		good(tick(4, 0), 0), good(stats(7), 4, 0, 0, 0, 0, 0, 0, 0, 0),
		good(tick(5, 0), 0), good(stats(7), 4, 2, 0, 0, 0, 0, 0, 0, 0),
		good(tick(5, 0), 0), good(stats(7), 4, 2, 0, 0, 0, 0, 0, 0, 0),
		good(tick(6, 0), 0), good(stats(7), 4, 3, 0, 0, 0, 0, 0, 0, 0),
		good(tick(7, 0), 0), good(stats(7), 4, 4, 0, 0, 0, 0, 0, 0, 0))
}

func TestP3EachSeriesHasItsWatermark(t *testing.T) {
	quick, slow := base(api.Decay), base(api.Often)
	quick.Lag, slow.Lag = 0, 100
	check(t, "P3: Lags", good(create(1, quick)), good(create(2, slow)), good(addAt(1, 5), 1), good(addAt(2, 5), 1),
		good(tick(5, 0), 0), good(stats(1), 1, 1, 0, 0, 0, 0, 0, 0, 0), good(stats(2), 1, 0, 0, 0, 0, 0, 0, 0, 0),
		good(tick(104, 0), 0), good(stats(2), 1, 0, 0, 0, 0, 0, 0, 0, 0), good(tick(105, 0), 0), good(stats(2), 1, 1, 0, 0, 0, 0, 0, 0, 0))
}

func TestP3OneClockForAllSeries(t *testing.T) {
	check(t, "P3: a series that is created later", good(tick(20, 0), 0), good(create(7, base(api.Count))), bad(addAt(7, 18), api.ErrLate), good(addAt(7, 19), 1), good(addAt(7, 25), 2), bad(addAt(7, 26), api.ErrFuture))
}

// Only a TICK releases: what is asked or refused in between leaves the buffer.
func TestP3OnlyTicksRelease(t *testing.T) {
	c := base(api.Decay)
	c.Cap = 1
	check(t, "P3: no release but by TICK", good(create(7, c)), good(addAt(7, 1), 1), good(query(7), 0, 0, 0), good(stats(7), 1, 0, 0, 0, 0, 0, 0, 0, 0), bad(addAt(7, 1), api.ErrCap), good(create(8, c)), good(stats(7), 1, 0, 0, 0, 0, 0, 0, 0, 1), good(tick(3, 0), 0), good(query(7), 0, 2, 2), good(stats(7), 1, 1, 0, 0, 0, 0, 0, 0, 1))
}

func TestP3BudgetsReleaseNothingMoreOrLess(t *testing.T) {
	for _, budget := range []int{0, 1, 99, 100} {
		check(t, "P3: budgets", good(create(7, base(api.Decay))), good(addAt(7, 1), 1), good(addAt(7, 2), 2), good(addAt(7, 3), 3), good(tick(4, budget), 0), good(stats(7), 3, 2, 0, 0, 0, 0, 0, 0, 0), good(query(7), 0, 5, 3))
	}
}

func TestP3StepsOfNoKind(t *testing.T) {
	for _, kind := range []int{math.MinInt, -7, -1, 0, 8, 9, 1 << 32, math.MaxInt} {
		op := addAt(7, 1)
		op.Kind = kind
		check(t, "P3: a step of no Kind", bad(op, api.ErrKind), good(create(7, base(api.Count))), bad(op, api.ErrKind), good(stats(7), zeros()...), good(addAt(7, 1), 1))
	}
}
