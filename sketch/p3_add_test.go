package sketch_test

import (
	"fmt"
	"math"
	"testing"

	"sketch/api"
)

func TestP3AddTimes(t *testing.T) {
	for _, kind := range allKinds() {
		check(t, fmt.Sprint("P3: times of kind ", kind),
			good(create(7, base(kind))), // Lag 2, Skew 5
			bad(addAt(7, -1), api.ErrTime), bad(addAt(7, math.MinInt), api.ErrTime), bad(addAt(7, api.MaxTime+1), api.ErrTime), bad(addAt(7, math.MaxInt), api.ErrTime),
			good(addAt(7, 0), 1), good(addAt(7, 5), 2), bad(addAt(7, 6), api.ErrFuture), bad(addAt(7, api.MaxTime), api.ErrFuture),
			good(tick(10, 0), 0),
			bad(addAt(7, 0), api.ErrLate), bad(addAt(7, 8), api.ErrLate), good(addAt(7, 9), 3), good(addAt(7, 15), 4), bad(addAt(7, 16), api.ErrFuture),
			good(stats(7), 4, 2, 4, 2, 3, 0, 0, 0, 0))
	}
}

func TestP3AddAtTheGreatestTimes(t *testing.T) {
	c := base(api.Count)
	check(t, "P3: the greatest times", good(create(7, c)),
		good(tick(api.MaxTime-5, 0), 0), good(addAt(7, api.MaxTime), 1), bad(addAt(7, api.MaxTime+1), api.ErrTime), bad(addAt(7, api.MaxTime-7), api.ErrLate), good(addAt(7, api.MaxTime-6), 2),
		good(tick(api.MaxTime, 0), 0), good(addAt(7, api.MaxTime-1), 3), good(addAt(7, api.MaxTime), 4), bad(addAt(7, api.MaxTime-2), api.ErrLate),
		good(stats(7), 4, 1, 1, 2, 0, 0, 0, 0, 0))
	c.Lag, c.Skew = api.MaxLag, api.MaxSkew
	check(t, "P3: the greatest Lag and Skew", good(create(7, c)),
		good(addAt(7, 100), 1), bad(addAt(7, 101), api.ErrFuture), good(tick(100, 0), 0), bad(addAt(7, 0), api.ErrLate), good(addAt(7, 1), 2), good(tick(199, 0), 1), good(stats(7), 2, 1, 0, 1, 1, 0, 0, 0, 0), good(tick(200, 0), 0), good(stats(7), 2, 2, 0, 1, 1, 0, 0, 0, 0))
	c.Lag, c.Skew = 0, 0
	check(t, "P3: no Lag and no Skew: no time is left", good(create(7, c)),
		bad(addAt(7, 0), api.ErrLate), bad(addAt(7, 1), api.ErrFuture), good(tick(4, 0), 0), bad(addAt(7, 4), api.ErrLate), bad(addAt(7, 5), api.ErrFuture), good(stats(7), 0, 0, 0, 2, 2, 0, 0, 0, 0))
}

func TestP3AddKeysAndDraws(t *testing.T) {
	wrongKeys := []int{math.MinInt, -1, api.MaxKey + 1, math.MaxInt}
	wrongDraws := []int{math.MinInt, -1, 0, api.MaxDraw + 1, math.MaxInt}
	for _, kind := range allKinds() {
		keyed := kind == api.Distinct || kind == api.Often || kind == api.Drawn
		steps := []step{good(create(7, base(kind))), good(add(7, 1, 0, 1), 1), good(add(7, 1, api.MaxKey, api.MaxDraw), 2)}
		accepted, keys, draws := 2, 0, 0
		try := func(key, draw int, refused *int, code api.Errno, refuses bool) {
			op := add(7, 1, key, draw)
			if refuses {
				*refused++
				steps = append(steps, bad(op, code))
				return
			}
			accepted++
			steps = append(steps, good(op, accepted), good(tick(0, 0), 0))
		}
		for _, key := range wrongKeys {
			try(key, 1, &keys, api.ErrKey, keyed)
		}
		check(t, fmt.Sprint("P3: keys of kind ", kind), append(steps, good(stats(7), accepted, 0, 0, 0, 0, 0, keys, 0, 0))...)
		steps = steps[:3]
		accepted, keys = 2, 0
		for _, draw := range wrongDraws {
			try(0, draw, &draws, api.ErrDraw, kind == api.Drawn)
		}
		check(t, fmt.Sprint("P3: draws of kind ", kind), append(steps, good(stats(7), accepted, 0, 0, 0, 0, 0, 0, draws, 0))...)
	}
}

func TestP3AddHorizon(t *testing.T) {
	for _, kind := range allKinds() {
		c := base(kind)
		c.Mark, c.Half, c.Degree = 4, 0, 1
		if kind == api.Decay || kind == api.Drawn {
			check(t, fmt.Sprint("P3: below Mark, kind ", kind), good(create(7, c)), bad(addAt(7, 3), api.ErrHorizon), bad(addAt(7, 0), api.ErrHorizon), good(addAt(7, 4), 1), good(stats(7), 1, 0, 0, 0, 0, 2, 0, 0, 0))
			continue
		}
		check(t, fmt.Sprint("P3: no Mark, kind ", kind), good(create(7, c)), good(addAt(7, 3), 1), good(addAt(7, 0), 2), good(stats(7), 2, 0, 0, 0, 0, 0, 0, 0, 0))
	}
}

// A DRAWN with a full buffer at the clock 10: the watermark is 8, Mark is 12.
func TestP3AddErrorsInOrder(t *testing.T) {
	c := base(api.Drawn)
	c.Mark, c.Cap = 12, 1
	check(t, "P3: the order of ADD's errors", good(create(7, c)), good(tick(10, 0), 0), good(add(7, 12, 1, 1), 1),
		bad(add(8, -1, -1, -1), api.ErrId),
		bad(add(7, -1, -1, -1), api.ErrTime), bad(add(7, api.MaxTime+1, -1, -1), api.ErrTime),
		bad(add(7, 8, -1, -1), api.ErrLate), bad(add(7, 0, 1, 1), api.ErrLate),
		bad(add(7, 16, -1, -1), api.ErrFuture), bad(add(7, api.MaxTime, -1, -1), api.ErrFuture),
		bad(add(7, 11, -1, -1), api.ErrHorizon), bad(add(7, 9, 1, 1), api.ErrHorizon),
		bad(add(7, 12, -1, -1), api.ErrKey), bad(add(7, 15, api.MaxKey+1, 0), api.ErrKey), bad(add(7, 15, api.MaxKey+1, 1), api.ErrKey),
		bad(add(7, 12, 1, 0), api.ErrDraw), bad(add(7, 12, 1, api.MaxDraw+1), api.ErrDraw), bad(add(7, 12, 0, -1), api.ErrDraw), bad(add(7, 12, 0, math.MinInt), api.ErrDraw),
		bad(add(7, 12, 1, 1), api.ErrCap), bad(add(7, 12, 1, 1), api.ErrCap), bad(add(7, 12, 1, 1), api.ErrCap), bad(add(7, 12, 1, 1), api.ErrCap), bad(add(7, 12, 1, 1), api.ErrCap),
		good(stats(7), 1, 0, 2, 2, 2, 2, 3, 4, 5))
}

// A time that is above the clock and Skew and has no weight is refused as one of the future; as soon as the clock is there, for its weight.
func TestP3FutureAheadOfHorizon(t *testing.T) {
	c := base(api.Decay)
	c.Half = 1
	check(t, "P3: future, then horizon", good(create(7, c)), good(tick(56, 0), 0),
		bad(addAt(7, 62), api.ErrFuture), good(addAt(7, 61), 1), good(tick(57, 0), 0), bad(addAt(7, 62), api.ErrHorizon), bad(addAt(7, 63), api.ErrFuture), good(tick(64, 0), 0), bad(addAt(7, 62), api.ErrLate), bad(addAt(7, 63), api.ErrHorizon),
		good(stats(7), 1, 1, 0, 1, 2, 2, 0, 0, 0))
}

func TestP3Cap(t *testing.T) {
	for _, kind := range allKinds() {
		for limit := 1; limit <= api.MaxCap; limit++ {
			c := base(kind)
			c.Cap = limit
			steps := []step{good(create(7, c))}
			for n := range limit {
				steps = append(steps, good(addAt(7, n%2+1), n+1))
			}
			ones := (limit + 1) / 2
			steps = append(steps,
				bad(addAt(7, 1), api.ErrCap), bad(addAt(7, 5), api.ErrCap), good(stats(7), limit, 0, 0, 0, 0, 0, 0, 0, 2),
				good(tick(2, 0), 0), bad(addAt(7, 1), api.ErrCap),
				good(tick(3, 0), 0), good(stats(7), limit, ones, 0, 0, 0, 0, 0, 0, 3))
			for n := range ones {
				steps = append(steps, good(addAt(7, 2), limit+n+1))
			}
			steps = append(steps, bad(addAt(7, 2), api.ErrCap), good(tick(4, 0), 0), good(stats(7), limit+ones, limit+ones, 0, 0, 0, 0, 0, 0, 4))
			check(t, fmt.Sprintf("P3: kind %d, Cap %d", kind, limit), steps...)
		}
	}
}

// Each series counts and numbers for itself; refused items get no number; what is told stays as it was told.
func TestP3EachSeriesCountsForItself(t *testing.T) {
	narrow := base(api.Drawn)
	narrow.Cap = 1
	check(t, "P3: two series", good(create(1, base(api.Count))), good(create(2, narrow)),
		good(stats(1), zeros()...), good(addAt(1, 1), 1), good(addAt(2, 1), 1), bad(addAt(2, 1), api.ErrCap), bad(addAt(1, -1), api.ErrTime), good(addAt(1, 1), 2),
		good(stats(1), 2, 0, 1, 0, 0, 0, 0, 0, 0), good(stats(2), 1, 0, 0, 0, 0, 0, 0, 0, 1), bad(addAt(3, -1), api.ErrId),
		good(tick(3, 0), 0), good(addAt(2, 2), 2), bad(add(2, 2, -1, 1), api.ErrKey), bad(add(2, 2, 1, -1), api.ErrDraw), bad(addAt(2, 1), api.ErrLate), bad(addAt(1, 9), api.ErrFuture),
		good(stats(1), 2, 2, 1, 0, 1, 0, 0, 0, 0), good(stats(2), 2, 1, 0, 1, 0, 0, 1, 1, 1), good(stats(2), 2, 1, 0, 1, 0, 0, 1, 1, 1))
}

func TestP3FieldsThatAStepDoesNotName(t *testing.T) {
	c := base(api.Count)
	noise := func(op api.Op) api.Op {
		if op.Kind != api.Create {
			op.Config = api.Config{Kind: -3, Cap: -1}
		}
		op.Bytes = "anything"
		return op
	}
	loudCreate, loudTick, loudStats := create(1, c), tick(3, 0), stats(1)
	loudCreate.A, loudCreate.B, loudCreate.C = math.MinInt, math.MaxInt, -1
	loudTick.Id, loudTick.C = -5, math.MinInt
	loudStats.A, loudStats.B, loudStats.C = -1, math.MaxInt, math.MinInt
	check(t, "P3: unnamed fields", good(noise(loudCreate)), good(noise(add(1, 1, math.MinInt, math.MaxInt)), 1), good(noise(loudTick), 0), good(noise(loudStats), 1, 1, 0, 0, 0, 0, 0, 0, 0))
}
