package sketch_test

import (
	"math/rand"
	"reflect"
	"slices"
	"sync"
	"testing"

	"sketch/api"
	"sketch/sketch"
)

// fullScript has a series of each kind, and steps of each Kind that are answered with OK and that are refused.
func fullScript() []api.Op {
	script := []api.Op{}
	for _, kind := range allKinds() {
		script = append(script, create(kind, base(kind)))
	}
	script = append(script, create(0, base(api.Decay)), create(9, base(api.Decay)), create(0, base(api.Count)))
	for time := range 12 {
		for id := range 7 {
			script = append(script, add(id, time+1, 3, 2), add(id, time+3, 5, time), add(id, time+2, -1, 1), stats(id), ask(id, time))
		}
		script = append(script, tick(time, time), tick(-1, 0), tick(0, 101), save(), api.Op{Kind: time + 8})
	}
	return script
}

func cloneAnswers(answers []api.Answer) []api.Answer {
	cloned := slices.Clone(answers)
	for i := range cloned {
		cloned[i].Numbers = slices.Clone(cloned[i].Numbers)
	}
	return cloned
}

func sameAnswer(a, b api.Answer) bool {
	return a.Code == b.Code && a.Bytes == b.Bytes && slices.Equal(a.Numbers, b.Numbers)
}

func sameAnswers(a, b []api.Answer) bool { return slices.EqualFunc(a, b, sameAnswer) }

// loadScript loads the same Bytes twice, and goes on behind both.
func loadScript() []api.Op {
	script := fullScript()
	answers := sketch.Run(append(slices.Clone(script), save()))
	again := load(answers[len(script)].Bytes)
	more := []api.Op{save(), tick(14, 1), addAt(1, 16), ask(1, 9), ask(2, 9), ask(3, 3), query(4), query(5), tick(18, 0), save()}
	return slices.Concat(script[:50], []api.Op{again}, more, []api.Op{load("no"), again}, more)
}

func scripts() [][]api.Op {
	r := rand.New(rand.NewSource(2))
	list := [][]api.Op{fullScript(), loadScript()}
	for range 20 {
		list = append(list, wildScript(r, 60))
	}
	return list
}

func TestP2HangsOnTheScriptAlone(t *testing.T) {
	list := scripts()
	var first [][]api.Answer
	for _, script := range list {
		first = append(first, sketch.Run(script))
	}
	for i := range list {
		at := len(list) - 1 - i
		if !sameAnswers(first[at], sketch.Run(list[at])) {
			t.Errorf("P2: script %d is answered otherwise behind other scripts", at)
		}
	}
	var all sync.WaitGroup
	for i, script := range list {
		all.Go(func() {
			if !sameAnswers(first[i], sketch.Run(script)) {
				t.Errorf("P2: script %d is answered otherwise beside other scripts", i)
			}
		})
	}
	all.Wait()
}

func TestP2LaterStepsChangeNoAnswer(t *testing.T) {
	for _, script := range scripts() {
		whole := sketch.Run(script)
		for n := range script {
			if !sameAnswers(whole[:n], sketch.Run(script[:n])) {
				t.Fatalf("P2: the first %d steps alone are answered otherwise", n)
			}
		}
	}
}

func TestP2NothingHandedInIsWritten(t *testing.T) {
	for _, script := range scripts() {
		room := make([]api.Op, 0, 2*len(script)+3)
		room = append(room, script...)
		for len(room) < cap(room) {
			room = append(room, api.Op{Kind: 77, Id: len(room), Bytes: "behind"})
		}
		before := slices.Clone(room)
		answers := sketch.Run(room[:len(script)])
		if !reflect.DeepEqual(before, room) {
			t.Fatal("P2: the script, or what stands behind it, was written into")
		}
		for i := range answers {
			overwrite(answers[i].Numbers)
		}
		if !reflect.DeepEqual(before, room) {
			t.Fatal("P2: an answer shares memory with the script")
		}
	}
}

func overwrite(list []int) {
	all := list[:cap(list)]
	for i := range all {
		all[i] = -12345
	}
}

func TestP2WritingIntoOneListChangesNoOther(t *testing.T) {
	script := fullScript()
	answers, others := sketch.Run(script), sketch.Run(script)
	want := cloneAnswers(answers)
	for i := range answers {
		overwrite(answers[i].Numbers)
		want[i].Numbers = slices.Clone(answers[i].Numbers)
		if !sameAnswers(want, answers) {
			t.Fatalf("P2: writing into the Numbers of answer %d changed another answer", i)
		}
	}
	fresh := sketch.Run(script)
	if !sameAnswers(fresh, others) {
		t.Error("P2: writing into an answer changed that of another call")
	}
	lists := make([][]int, len(others))
	for i := range others {
		lists[i] = others[i].Numbers
	}
	clear(others[:cap(others)])
	for i := range lists {
		if !slices.Equal(lists[i], fresh[i].Numbers) {
			t.Fatalf("P2: writing into the list of answers changed the Numbers of answer %d", i)
		}
	}
	if !sameAnswers(fresh, sketch.Run(script)) {
		t.Error("P2: writing into answers changed those of a later call")
	}
}
