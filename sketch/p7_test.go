package sketch_test

import (
	"math/rand"
	"slices"
	"testing"

	"sketch/api"
	"sketch/sketch"
)

// withBudgets is the script with other budgets in those TICKs that have one that may be.
func withBudgets(script []api.Op, budget func() int) []api.Op {
	other := slices.Clone(script)
	for i := range other {
		if op := &other[i]; op.Kind == api.Tick && 0 <= op.B && op.B <= api.MaxBudget {
			op.B = budget()
		}
	}
	return other
}

// sameButForTicks: TICK's Numbers may differ, its Code may not.
func sameButForTicks(t *testing.T, script []api.Op, a, b []api.Answer) {
	t.Helper()
	for i, op := range script {
		if op.Kind == api.Tick && a[i].Code == b[i].Code && len(a[i].Numbers) == len(b[i].Numbers) {
			continue
		}
		if op.Kind != api.Save && !sameAnswer(a[i], b[i]) {
			t.Fatalf("P7: step %d %+v: other budgets change %+v to %+v", i, op, a[i], b[i])
		}
	}
}

func TestP7BudgetsChangeOnlyTheNumbersOfTick(t *testing.T) {
	r := rand.New(rand.NewSource(8))
	differ := 0
	for round := range 400 {
		script := modelScript(r, 200)
		if round%2 == 0 {
			script = countScript(r, 400)
		}
		budgets := []func() int{func() int { return 0 }, func() int { return 1 }, func() int { return api.MaxBudget }, func() int { return r.Intn(4) }}
		want := sketch.Run(script)
		for _, budget := range budgets {
			other := withBudgets(script, budget)
			got := sketch.Run(other)
			sameButForTicks(t, script, want, got)
			if !sameAnswers(want, got) {
				differ++
			}
		}
	}
	if differ < 100 {
		t.Errorf("only %d scripts have dead buckets to throw away", differ)
	}
}

// The budget of the last TICK is taken from what would be left without it, and from nothing else.
func TestP7EachBudgetIsTakenFromTheDead(t *testing.T) {
	r := rand.New(rand.NewSource(9))
	met := 0
	for range 300 {
		script := countScript(r, 200)
		last := r.Intn(2000)
		for i := len(script) - 1; i > 0 && script[i].Kind == api.Query; i-- {
			script = script[:i]
		}
		clock := script[len(script)-1].A
		left := func(budget int) int {
			got := sketch.Run(append(slices.Clone(script), tick(min(clock+last, api.MaxTime), budget)))
			return got[len(got)-1].Numbers[0]
		}
		all := left(0)
		for _, budget := range []int{1, 2, 7, 100} {
			if got := left(budget); got != max(0, all-budget) {
				t.Fatalf("P7: %d dead buckets are left behind a TICK with the budget %d, %d with 0", got, budget, all)
			}
		}
		if all > 2 {
			met++
		}
	}
	if met < 50 {
		t.Errorf("only %d scripts have some dead buckets", met)
	}
}

// A window with dead buckets all around: asked, swept, asked again, joined later.
func TestP7DeadOrSweptIsTheSame(t *testing.T) {
	for budget := range 6 {
		script := []api.Op{create(7, count(1, 4)), create(8, count(2, 9))}
		for time := 1; time < 60; time++ {
			script = append(script, addAt(7, time), addAt(8, time), tick(time, budget))
			if time%10 == 0 {
				script = append(script, tick(time+6, budget), ask(7, 1), ask(7, 4), ask(8, 9))
			}
			script = append(script, ask(7, 4), ask(8, 5), stats(7), stats(8))
		}
		none := withBudgets(script, func() int { return 0 })
		sameButForTicks(t, script, sketch.Run(none), sketch.Run(script))
	}
}
