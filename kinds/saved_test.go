package kinds

import (
	"fmt"
	"math"
	"slices"
	"testing"

	"sketch/api"
	"sketch/item"
	"sketch/pack"
)

func text(numbers ...int) string {
	w := pack.NewWriter()
	for _, n := range numbers {
		w.Number(n)
	}
	return w.Close()
}

func savedNotes(n Notes, watermark int) string {
	w := pack.NewWriter()
	n.Save(w, watermark)
	return w.Close()
}

// taken is numbers that notes may be loaded from, or not.
type taken struct {
	good    bool
	numbers []int
}

func takes(numbers ...int) taken { return taken{true, numbers} }

func minds(numbers ...int) taken { return taken{false, numbers} }

func checkLoads(t *testing.T, what string, c api.Config, known Known, list ...taken) {
	t.Helper()
	kind, _ := find(c.Kind)
	for _, x := range list {
		n, k := kind.Start(c), known
		k.numbers = slices.Clone(known.numbers)
		r := pack.NewReader(text(x.numbers...))
		n.Load(r, &k)
		if r.Wrong() == x.good {
			t.Errorf("%s: %v: wrong: %v", what, x.numbers, r.Wrong())
		}
		if got := savedNotes(n, known.Watermark); x.good && got != text(x.numbers...) {
			t.Errorf("%s: %v is saved as %q", what, x.numbers, got)
		}
	}
}

// Example 2: the buckets are, time and size, 8 1, 7 1, 6 2, 4 4.
func TestCountSaved(t *testing.T) {
	n := startCount(api.Config{K: 1, Window: 3})
	if got := savedNotes(n, 0); got != text(0) {
		t.Errorf("no buckets: %q", got)
	}
	n = startCount(api.Config{K: 1, Window: 100})
	for time := 1; time <= 8; time++ {
		n.Release(item.Item{Time: time}, time)
	}
	for _, watermark := range []int{8, 1000} { // dead or not
		if got := savedNotes(n, watermark); got != text(3, 1, 4, 1, 6, 2, 7, 8) {
			t.Errorf("watermark %d: %q", watermark, got)
		}
	}
}

func TestCountLoaded(t *testing.T) {
	c := api.Config{Kind: api.Count, K: 1, Window: 3}
	checkLoads(t, "K 1", c, Known{Watermark: 8, Released: 8},
		takes(0), takes(1, 1, 0), takes(1, 1, 8), takes(1, 2, 3, 3), takes(2, 1, 4, 1, 4), takes(2, 2, 1, 2, 2, 2, 3), takes(3, 1, 4, 1, 6, 2, 7, 8), takes(3, 1, 1, 1, 2, 1, 3),
		minds(1, 0), minds(1, 1, 9), minds(1, 2, 5, 4), minds(1, 3, 1, 2, 3), minds(2, 1, 4, 0), minds(2, 0, 1, 4), minds(2, 1, 4, 1, 3), minds(3, 1, 4, 0, 2, 7, 8),
		minds(3, 1, 1, 2, 2, 2, 1, 3), minds(4, 1, 1, 1, 1, 1, 1, 1, 1), minds(63), minds(math.MaxInt))
	checkLoads(t, "K 1, one item less", c, Known{Watermark: 8, Released: 7}, takes(0), takes(3, 1, 1, 1, 2, 1, 3), minds(3, 1, 4, 1, 6, 2, 7, 8))
	checkLoads(t, "K 1, nothing released", c, Known{Watermark: 8}, takes(0), minds(1, 1, 1))
	checkLoads(t, "K 1, no time yet", c, Known{Watermark: -1, Released: 8}, takes(0), minds(1, 1, 0))
	c.K = 2
	checkLoads(t, "K 2", c, Known{Watermark: 8, Released: 8},
		takes(1, 3, 1, 2, 3), takes(2, 1, 4, 2, 6, 7), takes(2, 2, 1, 4, 3, 6, 7, 7), minds(1, 4, 1, 2, 3, 4), minds(2, 1, 4, 1, 6), minds(2, 1, 4, 4, 6, 6, 6, 6))
}

// The greatest sizes: one bucket of each of them.
func TestCountLoadedWithAllSizes(t *testing.T) {
	c := api.Config{Kind: api.Count, K: 1, Window: 3}
	numbers := []int{62}
	for range 62 {
		numbers = append(numbers, 1, 5)
	}
	checkLoads(t, "all sizes", c, Known{Watermark: 8, Released: 1<<62 - 1}, takes(numbers...))
	checkLoads(t, "all sizes, one item less", c, Known{Watermark: 8, Released: 1<<62 - 2}, minds(numbers...))
}

func TestDistinctSaved(t *testing.T) {
	n := startDistinct(api.Config{Bits: 1, Window: 10, Seeds: [3][2]int{{1, 0}}})
	if got := savedNotes(n, 0); got != text(0, 0) {
		t.Errorf("no marks: %q", got)
	}
	n.Release(item.Item{Time: 3, Key: 8}, 3) // h / m is 4: rank 3
	n.Release(item.Item{Time: 5, Key: 4}, 5)
	n.Release(item.Item{Time: 6, Key: 1}, 6)
	for watermark, want := range map[int]string{
		6: text(2, 3, 3, 5, 2, 1, 6, 40), 12: text(2, 3, 3, 5, 2, 1, 6, 40), 13: text(1, 5, 2, 1, 6, 40), 15: text(0, 1, 6, 40), 16: text(0, 0),
	} {
		if got := savedNotes(n, watermark); got != want {
			t.Errorf("watermark %d: %q, want %q", watermark, got, want)
		}
	}
}

func TestDistinctLoaded(t *testing.T) {
	c := api.Config{Kind: api.Distinct, Bits: 1, Window: 10, Seeds: [3][2]int{{1, 0}}}
	checkLoads(t, "two registers", c, Known{Watermark: 12, Released: 3},
		takes(0, 0), takes(1, 12, 40, 0), takes(0, 1, 3, 1), takes(2, 3, 40, 4, 39, 1, 12, 1), takes(3, 3, 3, 4, 2, 5, 1, 0),
		minds(1, 13, 5, 0), minds(1, 12, 0, 0), minds(1, 12, 41, 0), minds(2, 5, 7, 5, 6, 0), minds(2, 5, 7, 4, 6, 0), minds(2, 5, 7, 6, 7, 0), minds(2, 5, 7, 6, 8, 0), minds(2, 5, 1, 6, 0, 0),
		minds(2, 3, 40, 4, 39, 2, 3, 40, 4, 39), minds(41), minds(math.MaxInt))
	checkLoads(t, "no time yet", c, Known{Watermark: -1, Released: 3}, takes(0, 0), minds(1, 0, 1, 0))
	numbers := []int{40}
	for rank := 40; rank > 0; rank-- {
		numbers = append(numbers, 100-rank, rank)
	}
	c.Window = 1000
	checkLoads(t, "as many marks as there are ranks", c, Known{Watermark: 100, Released: 40}, takes(append(numbers, 0)...))
	checkLoads(t, "one item less", c, Known{Watermark: 100, Released: 39}, minds(append(numbers, 0)...))
}

func TestOftenSaved(t *testing.T) {
	n := startOften(api.Config{Rows: 2, Width: 3, Panes: 2, Window: 6, Seeds: [3][2]int{{1, 0}, {1, 1}}})
	if got := savedNotes(n, 0); got != text(0) {
		t.Errorf("no panes: %q", got)
	}
	for _, it := range []item.Item{{Time: 1, Key: 3}, {Time: 2, Key: 5}, {Time: 9, Key: 4}} {
		n.Release(it, min(it.Time, 7))
	}
	first, second := []int{0, 1, 0, 1, 1, 1, 0}, []int{3, 0, 1, 0, 0, 0, 1}
	for watermark, want := range map[int][]int{
		7: slices.Concat([]int{2}, first, second), 8: slices.Concat([]int{1}, second), 16: slices.Concat([]int{1}, second), 17: {0},
	} {
		if got := savedNotes(n, watermark); got != text(want...) {
			t.Errorf("watermark %d: %q, want %v", watermark, got, want)
		}
	}
}

func TestOftenLoaded(t *testing.T) {
	c := api.Config{Kind: api.Often, Rows: 2, Width: 2, Panes: 2, Window: 6, Seeds: [3][2]int{{1, 0}, {1, 1}}}
	checkLoads(t, "panes", c, Known{Watermark: 10, Released: 5}, // of the times 5 to 10: the panes 1 to 3
		takes(0), takes(1, 1, 1, 0, 0, 1), takes(1, 3, 5, 0, 2, 3), takes(2, 1, 1, 0, 0, 1, 3, 2, 2, 0, 4), takes(3, 1, 1, 0, 0, 1, 2, 1, 1, 2, 0, 3, 1, 1, 0, 2),
		minds(1, 4, 1, 0, 0, 1), minds(1, 1, 0, 0, 0, 0), minds(1, 1, 1, 0, 0, 0), minds(1, 1, 0, 0, 0, 1), minds(1, 1, 2, 1, 2, 2), minds(1, 1, 2, 2, 2, 1), minds(1, 3, 6, 0, 0, 6), minds(1, 3, 3, 3, 3, 3),
		minds(2, 1, 1, 0, 0, 1, 1, 1, 0, 0, 1), minds(2, 2, 1, 0, 0, 1, 1, 1, 0, 0, 1), minds(2, 1, 1, 0, 0, 1, 3, 3, 2, 0, 5), minds(2, 1, 3, 2, 0, 5, 3, 1, 0, 0, 1),
		minds(4, 0, 1, 0, 0, 1, 1, 1, 0, 0, 1, 2, 1, 0, 0, 1, 3, 1, 0, 0, 1), minds(1, math.MaxInt, 1, 0, 0, 1), minds(1, 1, math.MaxInt, math.MaxInt, 1, 0), minds(math.MaxInt))
	checkLoads(t, "pane 0", c, Known{Watermark: 5, Released: 5}, takes(1, 0, 1, 0, 0, 1), takes(2, 0, 1, 0, 0, 1, 1, 1, 1, 1, 1), minds(1, 2, 1, 0, 0, 1))
	checkLoads(t, "no time yet", c, Known{Watermark: -1}, takes(0), minds(1, 0, 1, 0, 0, 1))
	c.Rows, c.Width = 3, 1
	checkLoads(t, "three Rows", c, Known{Watermark: 5, Released: 5}, takes(1, 0, 3, 3, 3), minds(1, 0, 3, 3, 2), minds(1, 0, 3, 2, 3), minds(1, 0, 2, 3, 3))
}

func TestDecayLoaded(t *testing.T) {
	c := api.Config{Kind: api.Decay}
	const most = api.MaxWeight
	checkLoads(t, "no items", c, Known{}, takes(0, 0), minds(0, 1), minds(1, 0))
	checkLoads(t, "one item", c, Known{Released: 1}, takes(0, 1), takes(0, most-1), takes(1, 0), minds(0, 0), minds(0, most), minds(1, 1), minds(2, 0))
	checkLoads(t, "three items", c, Known{Released: 3}, takes(0, 3), takes(1, 0), takes(2, most-1), takes(3, 0), minds(0, 2), minds(2, most), minds(3, 1), minds(4, 0), minds(math.MaxInt, 0), minds(0, math.MaxInt))
}

func TestDecaySaved(t *testing.T) {
	n := startDecay(api.Config{Half: 1})
	for range 5 {
		n.Release(item.Item{Time: 60}, 60)
	}
	if got := savedNotes(n, 60); got != text(2, 1<<60) {
		t.Errorf("%q", got)
	}
}

// What goes last in the draw stands first.
func TestDrawnSaved(t *testing.T) {
	n := startDrawn(api.Config{Size: 2})
	if got := savedNotes(n, 0); got != text() {
		t.Errorf("no items: %q", got)
	}
	for number, draw := range []int{9, 3, 12, 6, 3} {
		n.Release(item.Item{Time: number, Key: 10 * draw, Draw: draw, Number: number + 1}, number)
	}
	if got := savedNotes(n, 4); got != text(4, 3, 60, 6, 5, 4, 30, 3, 2, 1, 30, 3) {
		t.Errorf("%q", got)
	}
}

func TestDrawnLoaded(t *testing.T) {
	c := api.Config{Kind: api.Drawn, Size: 1, Degree: 1, Mark: 2}
	known := Known{Watermark: 9, Accepted: 6, Released: 4, numbers: []int{3}}
	checkLoads(t, "two tickets", c, known,
		takes(1, 2, 0, 1, 6, 9, 5, 1), takes(5, 9, api.MaxKey, api.MaxDraw, 4, 9, 0, 1), takes(2, 2, 0, 1, 1, 2, 0, 1),
		minds(0, 2, 0, 1, 6, 9, 5, 1), minds(1, 2, 0, 1, 7, 9, 5, 1), minds(1, 2, 0, 1, 1, 9, 5, 1), minds(3, 2, 0, 1, 6, 9, 5, 1), minds(1, 2, 0, 1, 3, 9, 5, 1),
		minds(1, 1, 0, 1, 6, 9, 5, 1), minds(1, 2, 0, 1, 6, 10, 5, 1), minds(1, 2, api.MaxKey+1, 1, 6, 9, 5, 1), minds(1, 2, 0, 0, 6, 9, 5, 1), minds(1, 2, 0, 1, 6, 9, 5, api.MaxDraw+1), minds(math.MaxInt, math.MaxInt, math.MaxInt, math.MaxInt))
	known.Released = 1
	checkLoads(t, "one ticket", c, known, takes(4, 5, 5, 5))
	known.Released = 0
	checkLoads(t, "none", c, known, takes())
}

// someConfigs fits each kind; what a kind does not name is 0.
func someConfigs() []api.Config {
	return []api.Config{
		{Kind: api.Count, Lag: 1, Skew: 2, Cap: 3, K: 4, Window: 5},
		{Kind: api.Distinct, Lag: 100, Skew: 100, Cap: 8, Bits: 4, Window: 1000, Seeds: [3][2]int{{api.Prime - 1, api.Prime - 1}}},
		{Kind: api.Often, Cap: 1, Rows: 1, Width: 1, Panes: 1, Window: 1, Seeds: [3][2]int{{1, 0}}},
		{Kind: api.Often, Cap: 1, Rows: 2, Width: 7, Panes: 5, Window: 10, Seeds: [3][2]int{{1, 2}, {3, 4}}},
		{Kind: api.Often, Cap: 1, Rows: 3, Width: 16, Panes: 8, Window: 1000, Seeds: [3][2]int{{1, 2}, {3, 4}, {5, 6}}},
		{Kind: api.Decay, Lag: 4, Skew: 5, Cap: 6, Degree: 1, Half: 2, Mark: 3},
		{Kind: api.Drawn, Lag: 4, Skew: 5, Cap: 6, Degree: 3, Half: 100, Mark: api.MaxTime, Size: 5},
	}
}

func savedConfig(c api.Config) string {
	w := pack.NewWriter()
	SaveConfig(w, c)
	return w.Close()
}

func configParts(c *api.Config) []*int {
	list := []*int{&c.Lag, &c.Skew, &c.Cap, &c.K, &c.Window, &c.Bits, &c.Rows, &c.Width, &c.Panes, &c.Size, &c.Degree, &c.Half, &c.Mark}
	for i := range c.Seeds {
		list = append(list, &c.Seeds[i][0], &c.Seeds[i][1])
	}
	return list
}

// What is named comes back, what is not named is not saved.
func TestConfigsComeBack(t *testing.T) {
	for _, c := range someConfigs() {
		saved := savedConfig(c)
		got, kind, good := LoadConfig(pack.NewReader(saved))
		if got != c || !good || kind.Start == nil {
			t.Errorf("%+v: loaded %+v, %v", c, got, good)
		}
		for i, part := range configParts(&c) {
			before := *part
			*part = -1
			if _, fits := Of(c); fits == (savedConfig(c) != saved) {
				t.Errorf("kind %d, part %d: named or not, saved or not", c.Kind, i)
			}
			*part = before
		}
	}
}

func TestConfigsThatAreNone(t *testing.T) {
	for _, c := range someConfigs() {
		for i, part := range configParts(&c) {
			before := *part
			*part = math.MaxInt
			_, _, good := LoadConfig(pack.NewReader(configText(c)))
			if _, fits := Of(c); good != fits {
				t.Errorf("kind %d, part %d: loaded: %v, fits: %v", c.Kind, i, good, fits)
			}
			*part = before
		}
	}
	for _, numbers := range [][]int{{}, {0}, {6}, {math.MaxInt}, {0, 1, 1, 1, 1, 1}, {6, 1, 1, 1, 1, 1}} {
		if c, _, good := LoadConfig(pack.NewReader(text(numbers...))); good {
			t.Errorf("%v is loaded as %+v", numbers, c)
		}
	}
}

// configText is that of a configuration with any Rows, for which SaveConfig need not serve.
func configText(c api.Config) string {
	if c.Kind == api.Often && c.Rows > api.MaxRows {
		return text(c.Kind, c.Lag, c.Skew, c.Cap, c.Rows, c.Width, c.Panes, c.Window, 1, 1, 1, 1, 1, 1, 1, 1, 1, 1)
	}
	return savedConfig(c)
}

func TestNumbersOfItems(t *testing.T) {
	for numbers, good := range map[[3]int]bool{{1, 2, 3}: true, {3, 1, 4}: true, {0, 1, 2}: false, {1, 2, 5}: false, {1, 2, 1}: false, {2, 2, 3}: false} {
		known := &Known{Accepted: 4}
		r := pack.NewReader(text(numbers[:]...))
		var got [3]int
		for i := range got {
			got[i] = known.Number(r)
		}
		if r.Wrong() == good || good && fmt.Sprint(got) != fmt.Sprint(numbers) {
			t.Errorf("%v: wrong: %v, read %v", numbers, r.Wrong(), got)
		}
	}
}
