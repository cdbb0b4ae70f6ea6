package sketch_test

import (
	"math/rand"
	"slices"
	"testing"

	"sketch/api"
	"sketch/sketch"
)

// noteConfig is of one of the kinds of P5, with a Mark near the clock.
func noteConfig(r *rand.Rand, kind, clock int) api.Config {
	c := api.Config{Kind: kind, Lag: r.Intn(6), Skew: 10, Cap: 8, Seeds: someSeeds(r)}
	c.Bits, c.Window = 1+r.Intn(4), []int{1, 1 + r.Intn(10), 1 + r.Intn(200), api.MaxWindow}[r.Intn(4)]
	c.Size, c.Degree, c.Half, c.Mark = 1+r.Intn(5), r.Intn(4), r.Intn(10), max(0, clock-r.Intn(5))
	if kind == api.Often {
		c.Rows, c.Width, c.Panes = 1+r.Intn(3), 1+r.Intn(16), 1+r.Intn(8)
		c.Window = c.Panes * []int{1, 1 + r.Intn(5), 1 + r.Intn(api.MaxWindow/c.Panes)}[r.Intn(3)]
	}
	return c
}

// noteScript: series of one kind, with few keys and draws and with great ones, in crowds and with gaps.
func noteScript(r *rand.Rand, kind, length int) []api.Op {
	clock := []int{0, 0, 77, api.MaxTime - 2*length}[r.Intn(4)]
	script := []api.Op{tick(clock, 0)}
	windows := make([]int, 1+r.Intn(3))
	for id := range windows {
		c := noteConfig(r, kind, clock)
		windows[id] = c.Window
		script = append(script, create(id, c))
	}
	number := func() int {
		return []int{1 + r.Intn(6), 1 + r.Intn(40), api.MaxKey - r.Intn(3), 1 + r.Intn(api.MaxKey)}[r.Intn(4)]
	}
	for len(script) < length {
		id := r.Intn(len(windows))
		for range r.Intn(6) {
			script = append(script, add(r.Intn(len(windows)), clock+r.Intn(8)-3, number(), number()))
		}
		clock += r.Intn(3)
		if r.Intn(40) == 0 {
			clock += r.Intn(windows[0] + 5)
		}
		script = append(script, tick(clock, r.Intn(3)))
		for range 3 {
			script = append(script, ask(id, []int{1 + r.Intn(windows[id]), 1 + r.Intn(6), number(), 0}[r.Intn(4)]))
		}
	}
	return script
}

// P5's two consequences, beside that the model answers the same.
func TestP5AsTheModel(t *testing.T) {
	r := rand.New(rand.NewSource(10))
	above, changed, same := 0, 0, 0
	for round := range 300 {
		kind := []int{api.Distinct, api.Often, api.Drawn}[round%3]
		script := noteScript(r, kind, 400)
		m := &model{}
		last := map[int]int{} // where each series was asked last
		released := map[int]int{}
		answers := sketch.Run(script)
		for i, a := range answers {
			op := script[i]
			if want, _ := m.step(op); !sameAnswer(want, a) {
				t.Fatalf("P5: step %d %+v: answered %+v, want %+v", i, op, a, want)
			}
			if op.Kind != api.Query || a.Code != api.OK {
				continue
			}
			l := m.line(op.Id)
			if kind == api.Often {
				n := m.timesOf(l, op.A)
				if a.Numbers[0] < n {
					t.Fatalf("P5: step %d: %d is told of the key %d, which is %d times within Window", i, a.Numbers[0], op.A, n)
				}
				if a.Numbers[0] > n && n > 0 {
					above++
				}
			}
			if before, asked := last[op.Id]; asked && kind == api.Drawn {
				alike := slices.Equal(answers[before].Numbers, a.Numbers)
				switch {
				case released[op.Id] != len(l.gone) && !alike:
					changed++
				case released[op.Id] == len(l.gone) && !alike:
					t.Fatalf("P5: step %d: nothing was released, but %v was told and is now %v", i, answers[before].Numbers, a.Numbers)
				case released[op.Id] == len(l.gone):
					same++
				}
			}
			last[op.Id], released[op.Id] = i, len(l.gone)
		}
	}
	if above < 1000 || changed < 1000 || same < 1000 {
		t.Errorf("the scripts are too small: %d, %d, %d", above, changed, same)
	}
}

// timesOf is how many items of a key are within Window.
func (m *model) timesOf(l *line, key int) int {
	n := 0
	for _, x := range m.within(l, l.c.Window) {
		if x.key == key {
			n++
		}
	}
	return n
}
