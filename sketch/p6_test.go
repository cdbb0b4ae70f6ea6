package sketch_test

import (
	"math/rand"
	"slices"
	"strings"
	"testing"

	"sketch/api"
	"sketch/sketch"
)

// Example 7.
func TestP6Example7(t *testing.T) {
	script := []api.Op{create(7, base(api.Count)), addAt(7, 3), save(), load("")}
	answers := sketch.Run(script)
	bytes := answers[2].Bytes
	if answers[2].Code != api.OK || answers[3].Code != api.ErrBytes {
		t.Fatalf("P6: %+v", answers)
	}
	check(t, "P6: example 7", good(create(7, base(api.Count))), good(addAt(7, 3), 1), bad(load(""), api.ErrBytes), good(load(bytes)), good(stats(7), 1, 0, 0, 0, 0, 0, 0, 0, 0))
	check(t, "P6: example 7, in a new script", bad(load(""), api.ErrBytes), bad(stats(7), api.ErrId), good(load(bytes)), good(stats(7), 1, 0, 0, 0, 0, 0, 0, 0, 0), good(addAt(7, 2), 2), good(tick(5, 0), 0), good(ask(7, 10), 2))
}

// The beginning of a script is a whole too: to load it is to begin anew.
func TestP6TheBeginning(t *testing.T) {
	bytes := saved(t, nil)
	check(t, "P6: to begin anew", good(load(bytes)), good(create(7, base(api.Count))), good(tick(50, 0), 0), bad(addAt(7, 3), api.ErrLate), good(load(bytes)), bad(stats(7), api.ErrId), good(create(7, base(api.Decay))), good(addAt(7, 3), 1))
}

// What was there is gone: series, clock and counts.
func TestP6WhatWasThereIsGone(t *testing.T) {
	bytes := saved(t, []api.Op{tick(3, 0), create(1, base(api.Decay)), addAt(1, 4), addAt(1, -1)})
	check(t, "P6: what was there is gone", good(create(1, base(api.Count))), good(create(2, base(api.Drawn))), good(addAt(1, 3), 1), good(addAt(1, 2), 2), good(addAt(2, 5), 1), good(tick(90, 0), 1),
		good(load(bytes)), bad(stats(2), api.ErrId), good(stats(1), 1, 0, 1, 0, 0, 0, 0, 0, 0), bad(addAt(1, 1), api.ErrLate), good(addAt(1, 8), 2), bad(addAt(1, 9), api.ErrFuture),
		good(tick(7, 0), 0), good(query(1), 0, 5, 6), good(create(2, base(api.Count))), good(stats(2), zeros()...))
}

func TestP6SeriesKeepTheirOrder(t *testing.T) {
	script := []api.Op{}
	for _, id := range []int{50, 3, 99} {
		script = append(script, create(id, count(1, 1)), addAt(id, 1))
	}
	script = append(script, tick(1, 0))
	for _, id := range []int{3, 99} {
		script = append(script, addAt(id, 2))
	}
	bytes := saved(t, append(script, tick(2, 0), tick(9, 0), tick(9, 2)))
	// of the three dead buckets that of 99 is left: a release there throws it away, one in 50 does not
	for id, want := range map[int]int{50: 1, 3: 1, 99: 0} {
		check(t, "P6: the order of the series", good(load(bytes)), good(addAt(id, 10), 1+map[int]int{50: 1, 3: 2, 99: 2}[id]), good(tick(10, 0), want))
	}
}

// someScript is of all kinds, or of one of them, so that all notes are saved in all states.
func someScript(r *rand.Rand, length int) []api.Op {
	switch r.Intn(4) {
	case 0:
		return countScript(r, length)
	case 1:
		return noteScript(r, []int{api.Distinct, api.Often, api.Drawn}[r.Intn(3)], length)
	}
	return modelScript(r, length)
}

// withSaves puts a SAVE behind some steps.
func withSaves(r *rand.Rand, script []api.Op) []api.Op {
	var all []api.Op
	for _, op := range script {
		all = append(all, op)
		if r.Intn(5) == 0 {
			all = append(all, save())
		}
	}
	return all
}

// Behind SAVE and LOAD all goes on, in a new script and behind any other one.
func TestP6GoesOn(t *testing.T) {
	r := rand.New(rand.NewSource(11))
	for range 400 {
		script := withSaves(r, someScript(r, 120))
		want := sketch.Run(script)
		at := r.Intn(len(script) + 1)
		bytes := saved(t, script[:at])
		for _, other := range [][]api.Op{nil, someScript(r, 60), script} {
			steps := slices.Concat(other, []api.Op{load(bytes)}, script[at:])
			got := sketch.Run(steps)[len(other):]
			if got[0].Code != api.OK || len(got[0].Numbers) != 0 || got[0].Bytes != "" {
				t.Fatalf("P6: LOAD is answered with %+v", got[0])
			}
			if !sameAnswers(got[1:], want[at:]) {
				t.Fatalf("P6: saved behind %d steps of %+v: answered %+v, want %+v", at, script, got[1:], want[at:])
			}
		}
	}
}

// Saved and loaded behind every step.
func TestP6GoesOnStepByStep(t *testing.T) {
	r := rand.New(rand.NewSource(12))
	for range 60 {
		script := withSaves(r, someScript(r, 150))
		want := sketch.Run(script)
		bytes := saved(t, nil)
		for i, op := range script {
			got := sketch.Run([]api.Op{load(bytes), op, save()})
			if got[0].Code != api.OK || !sameAnswer(got[1], want[i]) {
				t.Fatalf("P6: step %d %+v: answered %+v, want %+v", i, op, got, want[i])
			}
			bytes = got[2].Bytes
		}
	}
}

// SAVEs, and LOADs of all that was saved so far, anywhere in a script.
func TestP6AsTheModel(t *testing.T) {
	r := rand.New(rand.NewSource(13))
	met := map[api.Errno]int{}
	for range 150 {
		var script []api.Op
		for range 6 {
			script = append(script, withSaves(r, someScript(r, 40))...)
			var all []string
			for _, a := range sketch.Run(script) {
				if a.Bytes != "" {
					all = append(all, a.Bytes)
				}
			}
			if len(all) > 0 {
				script = append(script, load(all[r.Intn(len(all))]), save())
			}
		}
		asTheModel(t, script, met)
	}
	if met[api.OK] < 1000 || met[api.ErrBytes] == 0 {
		t.Errorf("too little was met: %v", met)
	}
}

func sameBytes(t *testing.T, what string, a, b []api.Op) {
	t.Helper()
	if x, y := saved(t, a), saved(t, b); x != y {
		t.Errorf("P6: %s: %q and %q", what, x, y)
	}
}

func otherBytes(t *testing.T, what string, a, b []api.Op) {
	t.Helper()
	if saved(t, a) == saved(t, b) {
		t.Errorf("P6: %s: the Bytes are the same", what)
	}
}

// Steps that change nothing change no Bytes.
func TestP6SameWholeSameBytes(t *testing.T) {
	r := rand.New(rand.NewSource(14))
	for range 100 {
		script := someScript(r, 60)
		var idle []api.Op
		for id := range 9 {
			idle = append(idle, stats(id), ask(id, 1+r.Intn(9)), ask(id, -1))
		}
		idle = append(idle, save(), api.Op{Kind: 8}, tick(-1, 0), tick(5, 101), load(""), load("no"), create(-1, base(api.Count)), create(50, api.Config{}), add(50, 1, 1, 1), load(saved(t, script)))
		sameBytes(t, "steps that change nothing", script, append(slices.Clone(script), idle...))
	}
	full := fullScript()
	sameBytes(t, "TICKs with nothing to do", append(slices.Clone(full), tick(20, 100)), append(slices.Clone(full), tick(20, 100), tick(20, 100), tick(0, 0)))
	sameBytes(t, "a clock by other ways", []api.Op{create(7, base(api.Often)), tick(9, 0)}, []api.Op{tick(2, 5), create(7, base(api.Often)), tick(9, 1), tick(3, 0)})
}

// What a kind does not name in a configuration, nor looks at in an item, is not part of the whole.
func TestP6SameWholeWhateverIsNotNamed(t *testing.T) {
	r := rand.New(rand.NewSource(15))
	for _, kind := range allKinds() {
		plain := base(kind)
		for range 100 {
			c := plain
			for _, part := range []*int{&c.Lag, &c.Skew, &c.Cap, &c.K, &c.Window, &c.Bits, &c.Rows, &c.Width, &c.Panes, &c.Size, &c.Degree, &c.Half, &c.Mark, &c.Seeds[0][0], &c.Seeds[0][1], &c.Seeds[1][0], &c.Seeds[1][1], &c.Seeds[2][0], &c.Seeds[2][1]} {
				*part = pick(r)
			}
			for _, f := range fieldsOf(plain) {
				*f.of(&c) = *f.of(&plain)
			}
			script := []api.Op{create(7, c), addAt(7, 2), addAt(7, 5), tick(4, 0)}
			sameBytes(t, "what is not named", []api.Op{create(7, plain), addAt(7, 2), addAt(7, 5), tick(4, 0)}, script)
		}
	}
	for _, kind := range []int{api.Count, api.Decay} {
		for _, n := range edges() {
			sameBytes(t, "keys and draws that are not looked at", []api.Op{create(7, base(kind)), addAt(7, 2)}, []api.Op{create(7, base(kind)), add(7, 2, n, n)})
		}
	}
	sameBytes(t, "a draw that is not looked at", []api.Op{create(7, base(api.Often)), addAt(7, 2)}, []api.Op{create(7, base(api.Often)), add(7, 2, 0, -5)})
}

// What is told of no more leaves no trace: keys of items that have left their Window.
func TestP6SameWholeWhenItemsHaveLeft(t *testing.T) {
	for _, kind := range []int{api.Distinct, api.Often} {
		c := base(kind)
		for gone := range 30 {
			script := func(key int) []api.Op {
				return []api.Op{create(7, c), add(7, 2, key, 1), add(7, 5, 1, 1), tick(7, 0), tick(5+gone, 0)}
			}
			same := saved(t, script(4)) == saved(t, script(9))
			left := gone >= map[int]int{api.Distinct: 9, api.Often: 10}[kind] // the watermark is 3 more; panes are 2 long
			if same != left {
				t.Errorf("P6: kind %d, watermark %d: the same Bytes: %v", kind, 3+gone, same)
			}
		}
	}
}

// What a later step can tell is in the Bytes.
func TestP6OtherWholesOtherBytes(t *testing.T) {
	start := func(kind int) []api.Op { return []api.Op{create(7, base(kind)), tick(1, 0)} }
	for _, kind := range allKinds() {
		script := append(start(kind), add(7, 3, 4, 5))
		for _, other := range []api.Op{create(8, base(kind)), tick(2, 0), add(7, 3, 4, 5), add(7, -1, 0, 0)} {
			otherBytes(t, "one step more", script, append(slices.Clone(script), other))
		}
		otherBytes(t, "another time", script, append(start(kind), add(7, 4, 4, 5)))
		otherBytes(t, "another Id", script, []api.Op{create(6, base(kind)), tick(1, 0), add(6, 3, 4, 5)})
		for _, f := range fieldsOf(base(kind)) {
			c := base(kind)
			if *f.of(&c)++; !fits(c) {
				*f.of(&c) -= 2
			}
			if fits(c) {
				otherBytes(t, f.name, start(kind), []api.Op{create(7, c), tick(1, 0)})
			}
		}
	}
	for _, kind := range []int{api.Distinct, api.Often, api.Drawn} {
		otherBytes(t, "another key", append(start(kind), add(7, 3, 4, 5)), append(start(kind), add(7, 3, 3, 5)))
	}
	otherBytes(t, "another draw", append(start(api.Drawn), add(7, 3, 4, 5)), append(start(api.Drawn), add(7, 3, 4, 6)))
	otherBytes(t, "another order", []api.Op{create(1, base(api.Count)), create(2, base(api.Count))}, []api.Op{create(2, base(api.Count)), create(1, base(api.Count))})
}

// LOAD of foreign bytes leaves the whole as it was.
func TestP6ForeignBytes(t *testing.T) {
	script := fullScript()[:60]
	bytes := saved(t, script)
	list := []string{"", "x", "sketch 1", "sketch", strings.Repeat("\x00", 9), strings.Repeat("\xff", 100), bytes + "x", bytes + "\x00", bytes + bytes, strings.Repeat(bytes, 1000), "x" + bytes, strings.ToUpper(bytes)}
	r := rand.New(rand.NewSource(16))
	for i := range len(bytes) {
		list = append(list, bytes[:i], bytes[i+1:], bytes[:i]+bytes[i+1:], bytes[:i]+"\x00"+bytes[i:], bytes[:i]+string([]byte{bytes[i] + 1 + byte(r.Intn(255))})+bytes[i+1:])
	}
	for range 300 {
		random := make([]byte, r.Intn(200))
		for i := range random {
			random[i] = byte(r.Intn(256))
		}
		list = append(list, string(random), "sketch 1"+string(random))
	}
	for _, text := range list {
		if text == bytes {
			continue
		}
		got := sketch.Run(append(slices.Clone(script), load(text), save()))[len(script):]
		if !sameAnswer(got[0], api.Answer{Code: api.ErrBytes}) || got[1].Bytes != bytes {
			t.Errorf("P6: LOAD of %.60q: %d, then SAVE %.60q", text, got[0].Code, got[1].Bytes)
		}
	}
}
