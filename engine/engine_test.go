package engine

import (
	"fmt"
	"math/rand"
	"slices"
	"testing"

	"sketch/api"
	"sketch/item"
)

// passed is an item that was released, and by which series.
type passed struct {
	id int
	it item.Item
}

// watched is an engine with series of these Ids, whose notes write down what is released to them.
func watched(t *testing.T, log *[]passed, ids ...int) *Engine {
	t.Helper()
	e := &Engine{}
	for _, id := range ids {
		c := api.Config{Kind: api.Count, Skew: 100, Cap: 8, K: 1, Window: 10}
		if a := e.Step(api.Op{Kind: api.Create, Id: id, Config: c}); a.Code != api.OK {
			t.Fatalf("CREATE: %d", a.Code)
		}
		e.find(id).notes.Release = func(it item.Item, _ int) { *log = append(*log, passed{id, it}) }
	}
	return e
}

func (e *Engine) mustAdd(t *testing.T, id, time, key, draw int) {
	t.Helper()
	if a := e.Step(api.Op{Kind: api.Add, Id: id, A: time, B: key, C: draw}); a.Code != api.OK {
		t.Fatalf("ADD: %d", a.Code)
	}
}

func (e *Engine) mustTick(t *testing.T, time int) {
	t.Helper()
	if a := e.Step(api.Op{Kind: api.Tick, A: time}); a.Code != api.OK {
		t.Fatalf("TICK: %d", a.Code)
	}
}

func TestReleasedByTimeThenByNumber(t *testing.T) {
	var log []passed
	e := watched(t, &log, 7)
	for i, time := range []int{4, 2, 4, 1, 2, 9, 2, 4} {
		e.mustAdd(t, 7, time, 100-i, 50+i)
	}
	e.mustTick(t, 8)
	want := []passed{
		{7, item.Item{Time: 1, Key: 97, Draw: 53, Number: 4}},
		{7, item.Item{Time: 2, Key: 99, Draw: 51, Number: 2}}, {7, item.Item{Time: 2, Key: 96, Draw: 54, Number: 5}}, {7, item.Item{Time: 2, Key: 94, Draw: 56, Number: 7}},
		{7, item.Item{Time: 4, Key: 100, Draw: 50, Number: 1}}, {7, item.Item{Time: 4, Key: 98, Draw: 52, Number: 3}}, {7, item.Item{Time: 4, Key: 93, Draw: 57, Number: 8}},
	}
	if !slices.Equal(log, want) {
		t.Errorf("released %v, want %v", log, want)
	}
	e.mustTick(t, 9)
	if last := log[len(log)-1]; len(log) != 8 || last.it.Number != 6 {
		t.Errorf("released %v", log)
	}
}

func TestReleaseTellsTheWatermarkThatLetsItGo(t *testing.T) {
	e := &Engine{}
	e.Step(api.Op{Kind: api.Create, Id: 7, Config: api.Config{Kind: api.Count, Lag: 3, Skew: 100, Cap: 8, K: 1, Window: 10}})
	var told [][2]int
	e.find(7).notes.Release = func(it item.Item, watermark int) { told = append(told, [2]int{it.Time, watermark}) }
	for _, time := range []int{8, 1, 4} {
		e.mustAdd(t, 7, time, 0, 0)
	}
	for _, time := range []int{4, 9, 50} {
		e.mustTick(t, time)
	}
	if want := [][2]int{{1, 1}, {4, 6}, {8, 47}}; !slices.Equal(told, want) {
		t.Errorf("times and watermarks %v, want %v", told, want)
	}
}

// The budget goes from series to series in the order of their creation; each one is told its own watermark.
func TestSweepSharesTheBudget(t *testing.T) {
	e := &Engine{}
	dead := map[int]int{50: 3, 3: 4, 99: 5}
	type call struct{ id, watermark, budget int }
	var calls []call
	for i, id := range []int{50, 3, 99} {
		e.Step(api.Op{Kind: api.Create, Id: id, Config: api.Config{Kind: api.Decay, Lag: i, Cap: 8}})
		e.find(id).notes.Sweep = func(watermark, budget int) (int, int) {
			calls = append(calls, call{id, watermark, budget})
			thrown := min(budget, dead[id])
			return thrown, dead[id] - thrown
		}
	}
	a := e.Step(api.Op{Kind: api.Tick, A: 9, B: 5})
	if want := []call{{50, 9, 5}, {3, 8, 2}, {99, 7, 0}}; !slices.Equal(calls, want) {
		t.Errorf("swept %v, want %v", calls, want)
	}
	if !slices.Equal(a.Numbers, []int{7}) {
		t.Errorf("left are %v, want 7", a.Numbers)
	}
}

func TestSeriesReleaseInTheOrderOfTheirCreation(t *testing.T) {
	var log []passed
	e := watched(t, &log, 50, 3, 99, 0)
	for _, id := range []int{0, 3, 50, 99} {
		e.mustAdd(t, id, 1+id%3, 0, 0)
	}
	e.mustTick(t, 5)
	var ids []int
	for _, p := range log {
		ids = append(ids, p.id)
	}
	if !slices.Equal(ids, []int{50, 3, 99, 0}) {
		t.Errorf("released by %v", ids)
	}
}

// Whatever comes in whatever order: each TICK releases just what is due, sorted.
func TestReleaseOfManyItems(t *testing.T) {
	r := rand.New(rand.NewSource(4))
	var log []passed
	e := watched(t, &log, 7)
	var waiting []item.Item
	clock, number := 0, 0
	for round := range 2000 {
		for range r.Intn(5) {
			if len(waiting) == api.MaxCap {
				break
			}
			number++
			it := item.Item{Time: clock + 1 + r.Intn(6), Key: r.Intn(9), Draw: r.Intn(9), Number: number}
			e.mustAdd(t, 7, it.Time, it.Key, it.Draw)
			waiting = append(waiting, it)
		}
		clock += r.Intn(4)
		slices.SortStableFunc(waiting, func(a, b item.Item) int { return a.Time - b.Time })
		var want []passed
		for len(waiting) > 0 && waiting[0].Time <= clock {
			want = append(want, passed{7, waiting[0]})
			waiting = waiting[1:]
		}
		slices.SortFunc(waiting, func(a, b item.Item) int { return a.Number - b.Number })
		log = nil
		e.mustTick(t, clock)
		if !slices.Equal(log, want) {
			t.Fatalf("round %d: released %v, want %v", round, log, want)
		}
	}
}

func TestRefusedStepsReleaseNothing(t *testing.T) {
	var log []passed
	e := watched(t, &log, 7)
	e.mustAdd(t, 7, 1, 0, 0)
	for _, op := range []api.Op{{Kind: api.Tick, A: 50, B: -1}, {Kind: api.Tick, A: 50, B: 101}, {Kind: api.Tick, A: api.MaxTime + 1}, {Kind: api.Add, Id: 7, A: -1}, {Kind: api.Create, Id: 7}, {Kind: 12, A: 50}} {
		if a := e.Step(op); a.Code == api.OK {
			t.Errorf("%+v is answered with OK", op)
		}
	}
	if fmt.Sprint(log, e.clock) != "[] 0" {
		t.Errorf("released %v, the clock is %d", log, e.clock)
	}
}
