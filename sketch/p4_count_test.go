package sketch_test

import (
	"fmt"
	"math/rand"
	"testing"

	"sketch/api"
	"sketch/sketch"
)

func count(k, window int) api.Config {
	return api.Config{Kind: api.Count, Skew: 10, Cap: 8, K: k, Window: window}
}

// filled is a new series 7 with items of these times, released one TICK behind the other.
func filled(c api.Config, times ...int) []step {
	steps := []step{good(create(7, c))}
	for i, time := range times {
		steps = append(steps, good(tick(max(0, time+c.Lag-1), 0), 0), good(addAt(7, time), i+1), good(tick(time+c.Lag, 0), 0))
	}
	return steps
}

func TestP4Example1(t *testing.T) {
	check(t, "P4: example 1", good(create(7, api.Config{Kind: api.Count, K: 1, Window: 10, Lag: 2, Skew: 5, Cap: 8})),
		good(addAt(7, 3), 1), good(addAt(7, 3), 2), bad(addAt(7, 6), api.ErrFuture), bad(addAt(7, -1), api.ErrTime), good(tick(5, 0), 0), bad(addAt(7, 3), api.ErrLate),
		good(ask(7, 1), 2), good(ask(7, 10), 2), bad(ask(7, 11), api.ErrRange), good(stats(7), 2, 2, 1, 1, 1, 0, 0, 0, 0))
}

// Example 2: behind eight items the buckets are, time and size, 8 1, 7 1, 6 2, 4 4.
func TestP4Example2(t *testing.T) {
	steps := []step{good(create(7, count(1, 100)))}
	for i, time := range []int{3, 8, 1, 2, 7, 5, 6, 4} {
		steps = append(steps, good(addAt(7, time), i+1))
	}
	steps = append(steps, good(tick(8, 0), 0))
	for i, want := range []int{1, 2, 3, 3, 6, 6, 6, 6, 6, 6} {
		steps = append(steps, good(ask(7, i+1), want))
	}
	check(t, "P4: example 2", append(steps, good(ask(7, 100), 6), bad(ask(7, 101), api.ErrRange))...)
}

// The estimate of the whole behind each item, for a small, a middling and the greatest K.
func TestP4ItemByItem(t *testing.T) {
	for k, want := range map[int][]int{
		1:  {1, 2, 2, 3, 4, 5, 5, 6, 7, 8, 9, 10, 11, 12, 11, 12},
		2:  {1, 2, 3, 3, 4, 5, 6, 7, 8, 8, 9, 10, 11, 12, 13, 14},
		10: {1, 2, 3, 4, 5, 6, 7, 8, 9, 10, 11, 11, 12, 13, 14, 15, 16, 17, 18, 19, 20, 21, 22, 23, 24, 25, 26, 27, 28, 29, 30, 31, 32, 32, 33},
	} {
		steps := []step{good(create(7, count(k, 100)))}
		for i, n := range want {
			steps = append(steps, good(addAt(7, i+1), i+1), good(tick(i+1, 0), 0), good(ask(7, 100), n))
		}
		check(t, fmt.Sprint("P4: item by item, K ", k), steps...)
	}
}

func TestP4WindowsThatMayNotBe(t *testing.T) {
	for _, window := range []int{1, 2, 10, 999, 1000} {
		steps := []step{bad(ask(7, 0), api.ErrId), bad(ask(7, 1), api.ErrId), good(create(7, count(1, window))), good(addAt(7, 1), 1), good(tick(1, 0), 0), bad(ask(8, 0), api.ErrId)}
		for _, w := range append(edges(), window-1, window, window+1) {
			if w < 1 || w > window {
				steps = append(steps, bad(ask(7, w), api.ErrRange))
				continue
			}
			steps = append(steps, good(ask(7, w), 1))
		}
		check(t, fmt.Sprint("P4: windows of a series with Window ", window), append(steps, good(stats(7), 1, 1, 0, 0, 0, 0, 0, 0, 0))...)
	}
}

func TestP4AsksNothingOfBAndC(t *testing.T) {
	steps := filled(count(1, 10), 1, 2)
	for _, n := range edges() {
		steps = append(steps, good(api.Op{Kind: api.Query, Id: 7, A: 2, B: n, C: n, Bytes: "anything", Config: api.Config{Kind: n, Window: n}}, 2))
	}
	check(t, "P4: B and C", steps...)
}

// Keys and draws of any kind: a COUNT asks for times alone.
func TestP4CountsItemsOfAnyKey(t *testing.T) {
	steps := []step{good(create(7, count(1, 10)))}
	for i, n := range []int{-1 << 63, -1, 0, 1<<63 - 1} {
		steps = append(steps, good(add(7, i+1, n, n), i+1))
	}
	check(t, "P4: keys and draws", append(steps, good(tick(4, 0), 0), good(ask(7, 10), 3))...)
}

// A time of the watermark less w is no more within w, one more is.
func TestP4TheEdgeOfAWindow(t *testing.T) {
	for _, w := range []int{1, 2, 7, 1000} {
		steps := filled(count(1, 1000), 50)
		steps = append(steps, good(tick(49+w, 0), 0), good(ask(7, w), 1), good(tick(50+w, 0), w/1000), good(ask(7, w), 0))
		check(t, fmt.Sprint("P4: the edge of the window ", w), steps...)
	}
	check(t, "P4: three edges at one watermark", append(filled(count(1, 100), 10), // and then 30 1, 20 1, 20 2
		good(addAt(7, 20), 2), good(addAt(7, 20), 3), good(tick(20, 0), 0), good(addAt(7, 30), 4), good(tick(40, 0), 0), good(ask(7, 10), 0), good(ask(7, 11), 1), good(ask(7, 20), 1), good(ask(7, 21), 3), good(ask(7, 100), 3))...)
}

// The windows end at the watermark, not at the clock; what waits is not within any.
func TestP4WatermarkWithLag(t *testing.T) {
	c := count(1, 5)
	c.Lag = 3
	check(t, "P4: Lag", good(create(7, c)), good(ask(7, 5), 0), good(addAt(7, 0), 1), good(addAt(7, 4), 2), good(tick(2, 0), 0), good(ask(7, 5), 0), good(tick(3, 0), 0), good(ask(7, 1), 1),
		good(tick(6, 0), 0), good(ask(7, 3), 0), good(ask(7, 4), 1), good(tick(7, 0), 0), good(ask(7, 1), 1), good(ask(7, 5), 2),
		good(tick(8, 0), 1), good(ask(7, 1), 0), good(ask(7, 2), 1), good(ask(7, 5), 1))
}

func TestP4AtTheEndsOfTime(t *testing.T) {
	const end = api.MaxTime
	c := count(1, 1000)
	c.Lag = 100
	check(t, "P4: a watermark below 0", good(create(7, c)), good(ask(7, 1000), 0), good(tick(0, 100), 0), good(addAt(7, 0), 1), good(ask(7, 1000), 0), good(tick(100, 0), 0), good(ask(7, 1), 1))
	check(t, "P4: the greatest times", good(create(7, count(1, 1000))), good(tick(end-2, 0), 0), good(addAt(7, end-1), 1), good(addAt(7, end), 2), good(addAt(7, end), 3), good(tick(end, 100), 0), good(ask(7, 1), 2), good(ask(7, 2), 2), good(ask(7, 1000), 2))
	check(t, "P4: from the least to the greatest time", good(create(7, c)), good(addAt(7, 0), 1), good(addAt(7, 10), 2), good(tick(100, 0), 0), good(ask(7, 1), 1), good(tick(end, 0), 1), good(ask(7, 1000), 0), good(addAt(7, end-99), 3), good(tick(end, 0), 1), good(tick(end, 1), 0))
}

// Items that are dead when they are released become buckets all the same, each of which the next one throws away.
func TestP4ItemsThatAreReleasedDead(t *testing.T) {
	check(t, "P4: released dead", good(create(7, count(1, 3))), good(addAt(7, 1), 1), good(addAt(7, 2), 2), good(addAt(7, 3), 3), good(tick(100, 0), 1), good(ask(7, 3), 0), good(stats(7), 3, 3, 0, 0, 0, 0, 0, 0, 0), good(tick(100, 1), 0))
	check(t, "P4: some of them dead", good(create(7, count(1, 3))), good(addAt(7, 1), 1), good(addAt(7, 2), 2), good(addAt(7, 3), 3), good(tick(5, 0), 0), good(ask(7, 2), 0), good(ask(7, 3), 1))
	check(t, "P4: dead and swept at once", good(create(7, count(1, 3))), good(addAt(7, 1), 1), good(addAt(7, 2), 2), good(tick(100, 1), 0), good(ask(7, 3), 0))
}

// A dead bucket that is joined with a living one would come back to life.
func TestP4TheDeadStayDead(t *testing.T) {
	check(t, "P4: the dead are not joined", append(filled(count(1, 10), 1, 2), good(tick(12, 0), 2), good(addAt(7, 13), 3), good(tick(13, 0), 0), good(ask(7, 10), 1), good(addAt(7, 14), 4), good(tick(14, 0), 0), good(ask(7, 10), 2), good(addAt(7, 15), 5), good(tick(15, 0), 0), good(ask(7, 10), 2))...)
	check(t, "P4: those that the TICK itself lets die are not joined either", append(filled(count(1, 10), 1, 2), good(tick(11, 0), 1), good(addAt(7, 12), 3), good(addAt(7, 13), 4), good(tick(13, 0), 0), good(ask(7, 10), 2))...)
}

func TestP4EachSeriesHasItsBuckets(t *testing.T) {
	check(t, "P4: two series", good(create(1, count(1, 10))), good(create(2, count(3, 20))),
		good(addAt(1, 1), 1), good(addAt(1, 1), 2), good(addAt(1, 1), 3), good(addAt(2, 1), 1), good(addAt(2, 1), 2), good(addAt(2, 1), 3), good(addAt(2, 2), 4),
		good(tick(1, 0), 0), good(ask(1, 10), 2), good(ask(2, 10), 3), good(tick(2, 0), 0), good(ask(1, 10), 2), good(ask(2, 20), 4), good(ask(2, 1), 1), bad(ask(1, 20), api.ErrRange))
}

// dying is the beginning of a script: series 9, then series 2, each with three buckets that die at the clock 15.
func dying() []step {
	steps := []step{good(create(9, count(10, 5))), good(create(5, base(api.Decay))), good(create(2, count(10, 5)))}
	for n := range 3 {
		steps = append(steps, good(addAt(9, 10), n+1), good(addAt(2, 10), n+1))
	}
	return append(steps, good(tick(14, 100), 0))
}

func TestP4TicksThrowAwayUpToTheirBudget(t *testing.T) {
	for _, c := range []struct{ budget, left int }{{0, 6}, {1, 5}, {2, 4}, {3, 3}, {4, 2}, {5, 1}, {6, 0}, {7, 0}, {100, 0}} {
		check(t, fmt.Sprint("P4: the budget ", c.budget), append(dying(), good(tick(15, c.budget), c.left), good(tick(15, 0), c.left), good(tick(1, 1), max(0, c.left-1)), bad(tick(1, 101), api.ErrBudget), bad(tick(-1, 50), api.ErrTime), good(tick(20, 0), max(0, c.left-1)))...)
	}
}

// The series that was created first is swept first: what a release throws away tells whose the others were.
func TestP4SweptInTheOrderOfCreation(t *testing.T) {
	for _, c := range []struct{ budget, freed, behind9, behind2 int }{{0, 6, 3, 3}, {2, 4, 3, 1}, {3, 3, 3, 0}, {4, 2, 2, 0}, {6, 0, 0, 0}} {
		check(t, fmt.Sprint("P4: swept first, a release of 9, budget ", c.budget), append(dying(), good(tick(15, c.budget), c.freed), good(addAt(9, 16), 4), good(tick(16, 0), c.behind9))...)
		check(t, fmt.Sprint("P4: swept first, a release of 2, budget ", c.budget), append(dying(), good(tick(15, c.budget), c.freed), good(addAt(2, 16), 4), good(tick(16, 0), c.behind2))...)
	}
}

// What a release throws away is not on the budget of the TICK, which comes behind all releases.
func TestP4ReleasesAreNotOnTheBudget(t *testing.T) {
	check(t, "P4: the first series releases", append(dying(), good(addAt(9, 15), 4), good(tick(15, 2), 1), good(ask(9, 5), 1), good(tick(15, 2), 0))...)
	check(t, "P4: the second series releases", append(dying(), good(addAt(2, 15), 4), good(tick(15, 2), 1), good(ask(2, 5), 1))...)
	check(t, "P4: both release", append(dying(), good(addAt(2, 15), 4), good(addAt(9, 15), 4), good(tick(15, 0), 0), good(ask(2, 5), 1), good(ask(9, 5), 1))...)
}

// By its Lag one series has dead buckets while the other one has none.
func TestP4EachSeriesHasItsOwnDead(t *testing.T) {
	slow := count(10, 5)
	slow.Lag = 20
	check(t, "P4: Lags", good(create(1, slow)), good(create(2, count(10, 5))), good(create(3, count(10, 50))), good(addAt(1, 1), 1), good(addAt(2, 1), 1), good(addAt(3, 1), 1), good(tick(1, 0), 0), good(tick(21, 0), 1), good(ask(1, 5), 1), good(ask(2, 5), 0), good(ask(3, 50), 1),
		good(tick(26, 0), 2), good(ask(1, 5), 0), good(tick(26, 1), 1), good(tick(51, 0), 2), good(tick(51, 100), 0))
}

// Only COUNT has buckets.
func TestP4OtherKindsHaveNoDeadBuckets(t *testing.T) {
	for _, kind := range allKinds() {
		if kind == api.Count {
			continue
		}
		check(t, fmt.Sprint("P4: kind ", kind), good(create(7, base(kind))), good(addAt(7, 1), 1), good(addAt(7, 2), 2), good(tick(4, 0), 0), good(tick(5000, 0), 0))
	}
}

// countScript: a few series of kind COUNT, with items in crowds and with gaps, and QUERYs of all their windows at the end.
func countScript(r *rand.Rand, length int) []api.Op {
	clock := []int{0, 0, 77, api.MaxTime - 2*length}[r.Intn(4)]
	script := []api.Op{tick(clock, 0)}
	windows := make([]int, 1+r.Intn(3))
	for id := range windows {
		windows[id] = []int{1, 1 + r.Intn(10), 1 + r.Intn(200), api.MaxWindow}[r.Intn(4)]
		script = append(script, create(id, api.Config{Kind: api.Count, Lag: r.Intn(6), Skew: 10, Cap: 8, K: 1 + r.Intn(4)*r.Intn(4), Window: windows[id]}))
	}
	step, most := r.Intn(3), r.Intn(3)
	for len(script) < length {
		for range r.Intn(9) {
			script = append(script, addAt(r.Intn(len(windows)), clock+r.Intn(8)-3))
		}
		clock += r.Intn(step + 1)
		if r.Intn(40) == 0 {
			clock += r.Intn(windows[0] + 5)
		}
		id := r.Intn(len(windows))
		script = append(script, tick(clock, r.Intn(most+1)), ask(id, 1+r.Intn(windows[id])))
	}
	for id, window := range windows {
		for w := range window + 2 {
			script = append(script, ask(id, w))
		}
	}
	return script
}

// P4's bound, beside that the model answers the same.
func TestP4CountAsTheModel(t *testing.T) {
	r := rand.New(rand.NewSource(7))
	most, dead := 0, 0
	for range 150 {
		script := countScript(r, 1500)
		m := &model{}
		for i, a := range sketch.Run(script) {
			op := script[i]
			if want, _ := m.step(op); !sameAnswer(want, a) {
				t.Fatalf("P4: step %d %+v: answered %+v, want %+v", i, op, a, want)
			}
			if op.Kind == api.Tick && a.Code == api.OK {
				dead += a.Numbers[0]
			}
			if op.Kind != api.Query || a.Code != api.OK {
				continue
			}
			l, e := m.line(op.Id), a.Numbers[0]
			n := len(m.within(l, op.A))
			if l.c.K*max(e-n, n-e) > n {
				t.Fatalf("P4: K %d, window %d: the estimate is %d of %d", l.c.K, op.A, e, n)
			}
			most = max(most, n)
		}
	}
	if most < 300 || dead < 1000 {
		t.Errorf("the scripts are too small: at most %d items are within a window, %d buckets were dead", most, dead)
	}
}

// As many items as there may be: eight of each time, in the greatest Window, for each K.
func TestP4BoundOfFullWindows(t *testing.T) {
	for k := 1; k <= api.MaxK; k++ {
		script := []api.Op{create(7, count(k, api.MaxWindow))}
		for time := 1; time <= 1500; time++ {
			for range api.MaxCap {
				script = append(script, addAt(7, time))
			}
			script = append(script, tick(time, k%3))
		}
		for w := 1; w <= api.MaxWindow; w++ {
			script = append(script, ask(7, w))
		}
		answers := sketch.Run(script)
		for i, a := range answers[len(answers)-api.MaxWindow:] {
			n := api.MaxCap * (i + 1)
			if len(a.Numbers) != 1 || k*max(a.Numbers[0]-n, n-a.Numbers[0]) > n {
				t.Fatalf("P4: K %d, window %d: the estimate is %v of %d", k, i+1, a.Numbers, n)
			}
		}
	}
}

func TestP4ItemsOfOneTime(t *testing.T) {
	for k, want := range map[int]int{1: 6, 2: 7, 3: 7, 4: 7, 5: 7, 6: 7, 7: 8, 10: 8} {
		steps := []step{good(create(7, count(k, 10))), good(tick(5, 0), 0)}
		for n := range api.MaxCap {
			steps = append(steps, good(addAt(7, 6), n+1))
		}
		check(t, fmt.Sprint("P4: eight items of one time, K ", k), append(steps, good(tick(6, 0), 0), good(ask(7, 1), want), good(ask(7, 10), want), good(tick(15, 0), 0), good(ask(7, 9), 0), good(ask(7, 10), want))...)
	}
}
