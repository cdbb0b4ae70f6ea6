package sketch_test

import (
	"math"
	"slices"
	"testing"

	"sketch/api"
	"sketch/sketch"
)

func create(id int, c api.Config) api.Op { return api.Op{Kind: api.Create, Id: id, Config: c} }

func add(id, time, key, draw int) api.Op {
	return api.Op{Kind: api.Add, Id: id, A: time, B: key, C: draw}
}

func addAt(id, time int) api.Op { return add(id, time, 0, 1) }

func tick(time, budget int) api.Op { return api.Op{Kind: api.Tick, A: time, B: budget} }

func query(id int) api.Op { return api.Op{Kind: api.Query, Id: id} }

func ask(id, a int) api.Op { return api.Op{Kind: api.Query, Id: id, A: a} }

func stats(id int) api.Op { return api.Op{Kind: api.Stats, Id: id} }

func save() api.Op { return api.Op{Kind: api.Save} }

func load(bytes string) api.Op { return api.Op{Kind: api.Load, Bytes: bytes} }

// saved is the Bytes of a SAVE behind the script.
func saved(t *testing.T, script []api.Op) string {
	t.Helper()
	answers := sketch.Run(append(slices.Clone(script), save()))
	last := answers[len(answers)-1]
	if last.Code != api.OK || last.Bytes == "" || len(last.Numbers) != 0 {
		t.Fatalf("P6: SAVE is answered with %+v", last)
	}
	return last.Bytes
}

// step is a step and the answer that the document asks for.
type step struct {
	op      api.Op
	code    api.Errno
	numbers []int
}

func good(op api.Op, numbers ...int) step { return step{op, api.OK, numbers} }

func bad(op api.Op, code api.Errno) step { return step{op, code, nil} }

func check(t *testing.T, what string, steps ...step) {
	t.Helper()
	var script []api.Op
	for _, s := range steps {
		script = append(script, s.op)
	}
	answers := sketch.Run(script)
	if len(answers) != len(script) {
		t.Fatalf("%s: %d answers to %d steps", what, len(answers), len(script))
	}
	for i, s := range steps {
		a := answers[i]
		if a.Code != s.code || !slices.Equal(a.Numbers, s.numbers) || a.Bytes != "" {
			t.Errorf("%s: step %d %+v: answered %d %v %q, want %d %v", what, i, s.op, a.Code, a.Numbers, a.Bytes, s.code, s.numbers)
		}
	}
}

// edges are the numbers at which something may turn.
func edges() []int {
	list := []int{math.MinInt, math.MinInt + 1, -101, -100, -2, -1, 0, 1, 2, 3, 4, 5, 6, 8, 9, 10, 11, 16, 17, 60, 61, 62, 99, 100, 101, 1000, 1001, math.MaxInt - 1, math.MaxInt}
	for _, n := range []int{api.MaxKey, api.MaxWeight, api.MaxTime} {
		list = append(list, n-101, n-100, n-2, n-1, n, n+1)
	}
	return list
}

// base is a configuration of each kind that fits, with room on both sides of each limit.
func base(kind int) api.Config {
	c := api.Config{Kind: kind, Lag: 2, Skew: 5, Cap: 8}
	switch kind {
	case api.Count:
		c.K, c.Window = 1, 10
	case api.Distinct:
		c.Bits, c.Window = 2, 10
		c.Seeds[0] = [2]int{1, 0}
	case api.Often:
		c.Rows, c.Width, c.Panes, c.Window = 2, 4, 5, 10
		c.Seeds = [3][2]int{{1, 0}, {2, 3}}
	case api.Decay:
		c.Degree = 1
	case api.Drawn:
		c.Size, c.Degree = 2, 1
	}
	return c
}

func allKinds() []int {
	return []int{api.Count, api.Distinct, api.Often, api.Decay, api.Drawn}
}
