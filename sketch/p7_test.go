package sketch_test

import (
	"math/bits"
	"math/rand"
	"slices"
	"testing"

	"sketch/api"
	"sketch/sketch"
)

// withBudgets is the script with other budgets in those TICKs that have one that may be.
func withBudgets(script []api.Op, budget func() int) []api.Op {
	other := slices.Clone(script)
	for i := range other {
		if op := &other[i]; op.Kind == api.Tick && 0 <= op.B && op.B <= api.MaxBudget {
			op.B = budget()
		}
	}
	return other
}

// sameButForTicks: TICK's Numbers may differ, its Code may not.
func sameButForTicks(t *testing.T, script []api.Op, a, b []api.Answer) {
	t.Helper()
	for i, op := range script {
		if op.Kind == api.Tick && a[i].Code == b[i].Code && len(a[i].Numbers) == len(b[i].Numbers) {
			continue
		}
		if op.Kind != api.Save && !sameAnswer(a[i], b[i]) {
			t.Fatalf("P7: step %d %+v: other budgets change %+v to %+v", i, op, a[i], b[i])
		}
	}
}

func TestP7BudgetsChangeOnlyTheNumbersOfTick(t *testing.T) {
	r := rand.New(rand.NewSource(8))
	differ := 0
	for round := range 400 {
		script := modelScript(r, 200)
		if round%2 == 0 {
			script = countScript(r, 400)
		}
		budgets := []func() int{func() int { return 0 }, func() int { return 1 }, func() int { return api.MaxBudget }, func() int { return r.Intn(4) }}
		want := sketch.Run(script)
		for _, budget := range budgets {
			other := withBudgets(script, budget)
			got := sketch.Run(other)
			sameButForTicks(t, script, want, got)
			if !sameAnswers(want, got) {
				differ++
			}
		}
	}
	if differ < 100 {
		t.Errorf("only %d scripts have dead buckets to throw away", differ)
	}
}

// The budget of the last TICK is taken from what would be left without it, and from nothing else.
func TestP7EachBudgetIsTakenFromTheDead(t *testing.T) {
	r := rand.New(rand.NewSource(9))
	met := 0
	for range 300 {
		script := countScript(r, 200)
		last := r.Intn(2000)
		for i := len(script) - 1; i > 0 && script[i].Kind == api.Query; i-- {
			script = script[:i]
		}
		clock := script[len(script)-1].A
		left := func(budget int) int {
			got := sketch.Run(append(slices.Clone(script), tick(min(clock+last, api.MaxTime), budget)))
			return got[len(got)-1].Numbers[0]
		}
		all := left(0)
		for _, budget := range []int{1, 2, 7, 100} {
			if got := left(budget); got != max(0, all-budget) {
				t.Fatalf("P7: %d dead buckets are left behind a TICK with the budget %d, %d with 0", got, budget, all)
			}
		}
		if all > 2 {
			met++
		}
	}
	if met < 50 {
		t.Errorf("only %d scripts have some dead buckets", met)
	}
}

// A window with dead buckets all around: asked, swept, asked again, joined later.
func TestP7DeadOrSweptIsTheSame(t *testing.T) {
	for budget := range 6 {
		script := []api.Op{create(7, count(1, 4)), create(8, count(2, 9))}
		for time := 1; time < 60; time++ {
			script = append(script, addAt(7, time), addAt(8, time), tick(time, budget))
			if time%10 == 0 {
				script = append(script, tick(time+6, budget), ask(7, 1), ask(7, 4), ask(8, 9))
			}
			script = append(script, ask(7, 4), ask(8, 5), stats(7), stats(8))
		}
		none := withBudgets(script, func() int { return 0 })
		sameButForTicks(t, script, sketch.Run(none), sketch.Run(script))
	}
}

// Saved with other budgets and loaded, all goes on as before: only TICKs tell of them.
func TestP7BudgetsBehindLoad(t *testing.T) {
	r := rand.New(rand.NewSource(19))
	differ := 0
	for round := range 400 {
		script := countScript(r, 200)
		if round%4 == 0 {
			script = modelScript(r, 100)
		}
		script = withBudgets(script, func() int { return r.Intn(2) })
		other := withBudgets(script, func() int { return []int{0, api.MaxBudget}[round%2] })
		at := r.Intn(len(script))
		a, b := saved(t, script[:at]), saved(t, other[:at])
		if a != b {
			differ++
		}
		want := sketch.Run(script)[at:]
		sameButForTicks(t, script[at:], want, sketch.Run(append([]api.Op{load(a)}, other[at:]...))[1:])
		sameButForTicks(t, script[at:], want, sketch.Run(append([]api.Op{load(b)}, script[at:]...))[1:])
	}
	if differ < 30 {
		t.Errorf("only %d wholes have dead buckets or none by the budgets", differ)
	}
}

// mostBytes is how long the Bytes may be with n items within Window.
func mostBytes(k, n int) int { return 400 + 32*(k+1)*(bits.Len(uint(n))+1) }

// streamScript is a stream of items to a COUNT, with a SAVE behind each TICK; at times nothing comes for a while.
func streamScript(r *rand.Rand, c api.Config, clock, ticks int) []api.Op {
	script := []api.Op{tick(clock, 0), create(api.MaxId, c)}
	most := 1 + r.Intn(c.Cap)
	for range ticks {
		for range r.Intn(most + 1) {
			script = append(script, addAt(api.MaxId, clock+1-r.Intn(c.Lag+1)))
		}
		if clock += 1 + c.Lag; r.Intn(30) == 0 {
			clock += r.Intn(2 * c.Window)
		}
		script = append(script, tick(clock, []int{api.MaxBudget, r.Intn(4)}[r.Intn(2)]), save())
	}
	return script
}

func TestP7NotesAreShort(t *testing.T) {
	r := rand.New(rand.NewSource(20))
	met := 0
	for range 60 {
		c := api.Config{Kind: api.Count, Lag: r.Intn(3), Skew: api.MaxSkew, Cap: 1 + r.Intn(api.MaxCap), K: 1 + r.Intn(api.MaxK), Window: []int{1, 1 + r.Intn(9), 1 + r.Intn(100), api.MaxWindow}[r.Intn(4)]}
		clock := []int{0, 1 << 30, api.MaxTime - 1000000}[r.Intn(3)]
		script := streamScript(r, c, clock, 400)
		m := &model{}
		for i, a := range sketch.Run(script) {
			m.step(script[i])
			l := m.line(api.MaxId)
			if script[i].Kind != api.Save || len(l.waiting) > 0 || m.dead(l) > 0 {
				continue
			}
			met++
			n := len(m.within(l, c.Window))
			if len(a.Bytes) == 0 || len(a.Bytes) > mostBytes(c.K, n) {
				t.Fatalf("P7: %+v, %d items within Window: %d bytes", c, n, len(a.Bytes))
			}
		}
	}
	if met < 2000 {
		t.Errorf("only %d wholes have neither waiting items nor dead buckets", met)
	}
}

// Great numbers all over: times near the end, the greatest configuration, many items of which all are within Window.
func TestP7ManyItems(t *testing.T) {
	for k := 1; k <= api.MaxK; k++ {
		c := api.Config{Kind: api.Count, Lag: api.MaxLag, Skew: api.MaxSkew, Cap: api.MaxCap, K: k, Window: api.MaxWindow}
		clock := api.MaxTime - 1100
		script := []api.Op{tick(clock, 0), create(api.MaxId, c)}
		for n := range api.MaxWindow {
			for range api.MaxCap + 1 {
				script = append(script, addAt(api.MaxId, clock+n+1-c.Lag), addAt(api.MaxId, -1), addAt(api.MaxId, 5))
			}
			script = append(script, tick(clock+n+1, 0))
			if n%111 != 0 {
				continue
			}
			items := api.MaxCap * (n + 1)
			if got := len(saved(t, script)); got > mostBytes(k, items) {
				t.Errorf("P7: K %d, %d items: %d bytes", k, items, got)
			}
		}
	}
}

// What has left its Window makes the Bytes no longer, however much of it there was.
func TestP7LongPast(t *testing.T) {
	for _, window := range []int{1, 3} {
		script := []api.Op{create(7, count(1, window))}
		for time := range 20000 {
			for range 8 {
				script = append(script, addAt(7, time+1))
			}
			script = append(script, tick(time+1, api.MaxBudget))
		}
		if got := len(saved(t, script)); got > mostBytes(1, 8*window) {
			t.Errorf("P7: Window %d: %d bytes", window, got)
		}
		if got := len(saved(t, append(script, tick(30000, api.MaxBudget)))); got > mostBytes(1, 0) {
			t.Errorf("P7: no items: %d bytes", got)
		}
	}
}
