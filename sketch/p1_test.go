package sketch_test

import (
	"math/rand"
	"testing"

	"sketch/api"
	"sketch/sketch"
)

// pick is mostly one of the edges, at times a small number.
func pick(r *rand.Rand) int {
	if r.Intn(3) == 0 {
		return r.Intn(20)
	}
	list := edges()
	return list[r.Intn(len(list))]
}

func wildConfig(r *rand.Rand) api.Config {
	c := base(1 + r.Intn(5))
	fields := []*int{&c.Kind, &c.Lag, &c.Skew, &c.Cap, &c.K, &c.Window, &c.Bits, &c.Rows, &c.Width, &c.Panes, &c.Size, &c.Degree, &c.Half, &c.Mark, &c.Seeds[0][0], &c.Seeds[0][1], &c.Seeds[1][0], &c.Seeds[1][1], &c.Seeds[2][0], &c.Seeds[2][1]}
	for range r.Intn(4) {
		*fields[r.Intn(len(fields))] = pick(r)
	}
	return c
}

// wildScript has steps of every Kind and of none, with numbers of every size.
func wildScript(r *rand.Rand, length int) []api.Op {
	script := make([]api.Op, length)
	for i := range script {
		script[i] = api.Op{Kind: r.Intn(10) - 1, Id: r.Intn(8) - 1, A: pick(r), B: pick(r), C: pick(r), Config: wildConfig(r), Bytes: string([]byte{byte(r.Intn(256)), byte(r.Intn(256))})}
		if r.Intn(20) == 0 {
			script[i].Kind = pick(r)
		}
		if r.Intn(20) == 0 {
			script[i].Id = pick(r)
		}
	}
	return script
}

func TestP1NoSteps(t *testing.T) {
	if n := len(sketch.Run(nil)); n != 0 {
		t.Errorf("P1: %d answers to nil", n)
	}
	if n := len(sketch.Run([]api.Op{})); n != 0 {
		t.Errorf("P1: %d answers to no steps", n)
	}
}

func TestP1WildScripts(t *testing.T) {
	r := rand.New(rand.NewSource(1))
	for range 300 {
		script := wildScript(r, r.Intn(200))
		answers := sketch.Run(script)
		if len(answers) != len(script) {
			t.Fatalf("P1: %d answers to %d steps", len(answers), len(script))
		}
		for i, a := range answers {
			if a.Code < api.OK || a.Code > api.ErrBytes {
				t.Errorf("P1: %+v: answered with no error that there is: %d", script[i], a.Code)
			}
			if a.Code != api.OK && (len(a.Numbers) != 0 || a.Bytes != "") {
				t.Errorf("P1: %+v: error %d comes with %v %q", script[i], a.Code, a.Numbers, a.Bytes)
			}
		}
	}
}

// Each edge in each field of each step, on a series of each kind.
func TestP1EdgesInEachField(t *testing.T) {
	for _, kind := range allKinds() {
		script := []api.Op{create(0, base(kind))}
		for _, n := range edges() {
			for step := api.Create; step <= api.Load; step++ {
				script = append(script,
					api.Op{Kind: step, Id: n},
					api.Op{Kind: step, A: n, B: 1, C: 1},
					api.Op{Kind: step, A: 3, B: n, C: 1},
					api.Op{Kind: step, A: 3, B: 1, C: n},
					api.Op{Kind: step, A: n, B: n, C: n})
			}
			script = append(script, api.Op{Kind: n})
		}
		if n := len(sketch.Run(script)); n != len(script) {
			t.Errorf("P1: kind %d: %d answers to %d steps", kind, n, len(script))
		}
	}
}

func TestP1LongScriptEnds(t *testing.T) {
	script := []api.Op{create(0, count(api.MaxK, api.MaxWindow))}
	for _, kind := range allKinds() {
		script = append(script, create(kind, base(kind)))
	}
	for i := range 50000 {
		for id := range len(allKinds()) + 1 {
			script = append(script, add(id, i+1, i%1000, 1+i%77))
		}
		script = append(script, tick(i, 1), ask(i%6, 1+i%10))
	}
	if n := len(sketch.Run(script)); n != len(script) {
		t.Errorf("P1: %d answers to %d steps", n, len(script))
	}
}

func TestP1AnswersInOrder(t *testing.T) {
	check(t, "P1: in order",
		good(create(1, base(api.Decay))), bad(stats(2), api.ErrId), good(addAt(1, 4), 1), bad(api.Op{}, api.ErrKind),
		good(stats(1), 1, 0, 0, 0, 0, 0, 0, 0, 0), bad(addAt(1, 6), api.ErrFuture), good(addAt(1, 5), 2), good(tick(1, 0), 0))
}

// FuzzP1 plays its seeds as a test; go test -fuzz FuzzP1 ./sketch goes on from there.
func FuzzP1(f *testing.F) {
	for seed := range int64(5) {
		f.Add(seed, 50)
	}
	f.Fuzz(func(t *testing.T, seed int64, length int) {
		script := wildScript(rand.New(rand.NewSource(seed)), max(0, length%1000))
		if n := len(sketch.Run(script)); n != len(script) {
			t.Errorf("P1: %d answers to %d steps", n, len(script))
		}
	})
}
