package engine

import (
	"slices"
	"testing"

	"sketch/api"
	"sketch/item"
)

// someWhole has a series of each kind, with items that wait (the numbers 3 and 4) and items that were released; the clock is 20.
func someWhole() *Engine {
	e := &Engine{}
	for i, c := range []api.Config{
		{Kind: api.Count, K: 1, Window: 10},
		{Kind: api.Distinct, Bits: 1, Window: 10, Seeds: [3][2]int{{1, 0}}},
		{Kind: api.Often, Rows: 2, Width: 3, Panes: 2, Window: 10, Seeds: [3][2]int{{1, 0}, {2, 1}}},
		{Kind: api.Decay, Degree: 1, Mark: 5},
		{Kind: api.Drawn, Degree: 1, Mark: 5, Size: 1},
	} {
		c.Lag, c.Skew, c.Cap = 2, 30, 4
		e.Step(api.Op{Kind: api.Create, Id: 10 * i, Config: c})
		for j, time := range []int{14, 17, 22, 19} {
			e.Step(api.Op{Kind: api.Add, Id: 10 * i, A: time, B: 5 + j, C: 1 + j})
		}
		e.Step(api.Op{Kind: api.Add, Id: 10 * i, A: -1})
	}
	e.Step(api.Op{Kind: api.Tick, A: 20})
	return e
}

func TestLoadIsTheWhole(t *testing.T) {
	e := someWhole()
	saved := e.saved()
	other := loaded(saved)
	if other == nil || other.saved() != saved || other.clock != 20 || len(other.series) != 5 {
		t.Fatalf("loaded: %+v", other)
	}
	for _, s := range other.series {
		want := e.find(s.id)
		if s.accepted != 4 || s.released != 2 || s.refused != want.refused || s.config != want.config || s.buffer.Len() != 2 {
			t.Errorf("series %d: %+v, want %+v", s.id, s, want)
		}
	}
}

func TestLoadSharesNothing(t *testing.T) {
	e := someWhole()
	saved := e.saved()
	a, b := loaded(saved), loaded(saved)
	for id := 0; id <= 40; id += 10 {
		a.Step(api.Op{Kind: api.Add, Id: id, A: 25, B: 1, C: 1})
	}
	a.Step(api.Op{Kind: api.Tick, A: 50, B: 9})
	if b.saved() != saved || e.saved() != saved || a.saved() == saved {
		t.Error("a whole changed with another one")
	}
}

// changed is some whole as it cannot come to be, but saved as if it were.
type changed struct {
	what   string
	change func(e *Engine)
}

// waiting puts an item into each buffer beside those that wait, one of which is taken out for it.
func waiting(it item.Item) func(e *Engine) {
	return func(e *Engine) {
		for _, s := range e.series {
			s.buffer.Take()
			s.buffer.Put(it)
		}
	}
}

func TestLoadMindsWhatCannotBe(t *testing.T) {
	list := []changed{
		{"a clock that may not be", func(e *Engine) { e.series = nil; e.clock = api.MaxTime + 1 }},
		{"a clock that leaves waiting items behind", func(e *Engine) { e.clock = 21 }},
		{"a clock that is not yet there", func(e *Engine) { e.clock = 18 }},
		{"no such Id", func(e *Engine) { e.series[2].id = api.MaxId + 1 }},
		{"the Id of another", func(e *Engine) { e.series[2].id = 10 }},
		{"more series than may be", func(e *Engine) {
			for id := 60; id < 62; id++ {
				s := *e.series[0]
				s.id = id
				e.series = append(e.series, &s)
			}
		}},
		{"no configuration", func(e *Engine) { e.series[3].config.Cap = 9 }},
		{"more items than Cap", func(e *Engine) { e.series[1].config.Cap = 1 }},
		{"a count that no script comes to", func(e *Engine) { e.series[0].refused[api.ErrCap] = maxCount + 1 }},
		{"a late item", waiting(item.Item{Time: 18, Key: 1, Draw: 1, Number: 3})},
		{"an item of a far time", waiting(item.Item{Time: 51, Key: 1, Draw: 1, Number: 3})},
		{"an item without a number", waiting(item.Item{Time: 30, Key: 1, Draw: 1, Number: 0})},
		{"an item with a number that is yet to come", waiting(item.Item{Time: 30, Key: 1, Draw: 1, Number: 5})},
		{"two items with one number", func(e *Engine) {
			waiting(item.Item{Time: 30, Key: 1, Draw: 1, Number: 3})(e)
			waiting(item.Item{Time: 31, Key: 1, Draw: 1, Number: 3})(e)
		}},
		{"less items than numbers", func(e *Engine) { e.series[4].released = 1 }},
		{"more items released than there was time for", func(e *Engine) { e.series[0].released = 4*19 + 1 }},
		{"the number of a waiting item is that of a ticket", func(e *Engine) {
			e.series[4].buffer.Take()
			e.series[4].buffer.Put(item.Item{Time: 30, Key: 1, Draw: 1, Number: 2})
		}},
	}
	for i, s := range someWhole().series {
		refused := map[int]item.Item{0: {Number: 3}, 1: {Time: 30, Key: api.MaxKey + 1, Number: 3}, 2: {Time: 30, Key: api.MaxKey + 1, Number: 3}, 3: {Number: 3}, 4: {Time: 30, Key: 1, Draw: 0, Number: 3}}[i]
		list = append(list, changed{"an item that its kind refuses", func(e *Engine) {
			e.find(s.id).buffer.Take()
			e.find(s.id).buffer.Put(refused)
		}})
	}
	e := someWhole()
	before := e.saved()
	for _, c := range list {
		other := someWhole()
		c.change(other)
		a := e.Step(api.Op{Kind: api.Load, Bytes: other.saved()})
		if a.Code != api.ErrBytes || a.Numbers != nil || a.Bytes != "" || e.saved() != before {
			t.Errorf("%s: answered with %+v", c.what, a)
		}
	}
}

// Beside those above: what differs, but may come to be.
func TestLoadTakesWhatMayBe(t *testing.T) {
	for _, c := range []changed{
		{"nothing changed", func(e *Engine) {}},
		{"no series", func(e *Engine) { e.series = nil; e.clock = api.MaxTime }},
		{"as many series as may be", func(e *Engine) {
			s := *e.series[0]
			s.id = api.MaxId
			e.series = append(e.series, &s)
		}},
		{"another order of the series", func(e *Engine) { slices.Reverse(e.series) }},
		{"a great count", func(e *Engine) { e.series[0].refused[api.ErrCap] = maxCount }},
		{"the first time that is not late", waiting(item.Item{Time: 19, Key: api.MaxKey, Draw: api.MaxDraw, Number: 4})},
		{"the last time that is not too far", waiting(item.Item{Time: 50, Key: 0, Draw: 1, Number: 4})},
		{"more items released than are told", func(e *Engine) { e.series[4].released = 5 }},
		{"as many items released as there was time for", func(e *Engine) { e.series[0].released = 4 * 19 }},
	} {
		other := someWhole()
		c.change(other)
		if a := new(Engine).Step(api.Op{Kind: api.Load, Bytes: other.saved()}); a.Code != api.OK {
			t.Errorf("%s: answered with %d", c.what, a.Code)
		}
	}
}

func TestMostReleased(t *testing.T) {
	for _, c := range []struct{ clock, lag, most, want int }{
		{0, 0, 1, 0}, {1, 0, 1, 1}, {1, 0, 8, 8}, {0, 1, 8, 0}, {1, 1, 8, 8}, {2, 1, 8, 16}, {2, 2, 8, 8}, {100, 100, 3, 3}, {99, 100, 3, 0}, {5, 100, 3, 0}, {103, 100, 3, 12},
		{1<<59 - 1, 0, 8, 1<<62 - 8}, {1 << 59, 0, 8, 1 << 62}, {1<<59 + 1, 0, 8, 1 << 62}, {api.MaxTime, 0, 1, 1 << 62}, {1 << 62 / 3, 0, 3, 1<<62 - 1}, {1<<62/3 + 1, 0, 3, 1 << 62}, {api.MaxTime, 0, 3, 1 << 62},
	} {
		s := &series{config: api.Config{Lag: c.lag, Cap: c.most}}
		if got := s.mostReleased(c.clock); got != c.want {
			t.Errorf("%+v: %d", c, got)
		}
	}
}

// As many items as may be are released, and as soon as may be: what is saved is taken.
func TestLoadTakesTheMost(t *testing.T) {
	for _, lag := range []int{0, 1, 7} {
		e := &Engine{}
		e.Step(api.Op{Kind: api.Create, Config: api.Config{Kind: api.Count, Lag: lag, Skew: 1, Cap: 3, K: 1, Window: 4}})
		for clock := range 30 {
			for range 3 {
				e.Step(api.Op{Kind: api.Add, A: max(0, clock+1-lag)})
			}
			e.mustTick(t, clock+1)
			if loaded(e.saved()) == nil {
				t.Errorf("Lag %d, clock %d: what was saved is not taken", lag, clock+1)
			}
		}
		if s := e.series[0]; s.released != s.mostReleased(30) {
			t.Errorf("Lag %d: only %d items", lag, s.released)
		}
	}
}

func TestLoadMindsForeignBytes(t *testing.T) {
	saved := someWhole().saved()
	for _, text := range []string{"", "sketch 1", saved + "\x00", saved + saved, saved[:len(saved)-1], saved[1:]} {
		if loaded(text) != nil {
			t.Errorf("%.40q is taken", text)
		}
	}
	empty := (&Engine{}).saved()
	longer := empty[:8] + "\x80\x00" + empty[9:] // the clock, 0, in two bytes
	if loaded(empty) == nil || loaded(longer) != nil {
		t.Error("a number is taken in a second way")
	}
}

// greatCounts has series that have counted as far as may be, but for what it lacks; nothing waits.
func greatCounts(lacks int) *Engine {
	e := someWhole()
	e.clock = api.MaxWeight - 50
	for _, s := range e.series {
		for s.buffer.Len() > 0 {
			s.buffer.Take()
		}
		s.released = maxCount - lacks
		for _, code := range counted() {
			s.refused[code] = maxCount - lacks
		}
	}
	e.find(30).notes.Release(item.Item{Time: 4 + api.MaxWeight}, e.clock) // the sum of a DECAY is not to be less than the items
	return e
}

// From the greatest counts on, no step comes to a whole that is saved but not loaded.
func TestGreatCountsGoOn(t *testing.T) {
	for lacks := range 5 {
		e := loaded(greatCounts(lacks).saved())
		if e == nil {
			t.Fatalf("%d less than the greatest counts are not taken", lacks)
		}
		for clock := api.MaxWeight - 50; clock < api.MaxWeight-40; clock++ {
			for _, s := range e.series {
				for _, time := range []int{clock, clock, clock - 1, clock + 1, clock + 1, -1, 0, api.MaxTime} {
					e.Step(api.Op{Kind: api.Add, Id: s.id, A: time, B: 1, C: 1})
				}
			}
			e.mustTick(t, clock)
			if saved := e.saved(); loaded(saved) == nil || loaded(saved).saved() != saved {
				t.Fatalf("%d less than the greatest counts: what is saved at %d is not taken", lacks, clock)
			}
		}
		for _, s := range e.series {
			if a := e.Step(api.Op{Kind: api.Stats, Id: s.id}); !slices.Equal(a.Numbers[:5], []int{maxCount, maxCount, maxCount, maxCount, maxCount}) || a.Numbers[8] != maxCount {
				t.Errorf("%d less than the greatest counts: series %d: %v", lacks, s.id, a.Numbers)
			}
		}
	}
}

// One item less than the greatest count is accepted, then none: its number would be too great to be saved.
func TestNoItemIsAcceptedAboveTheGreatestCount(t *testing.T) {
	e := loaded(greatCounts(1).saved())
	e.mustAdd(t, 0, api.MaxWeight-45, 1, 1)
	if a := e.Step(api.Op{Kind: api.Add, A: api.MaxWeight - 45}); a.Code != api.ErrCap {
		t.Errorf("answered with %+v", a)
	}
	if other := loaded(e.saved()); other == nil || other.series[0].accepted != maxCount {
		t.Error("the greatest count of accepted items is not taken")
	}
	e.series[0].released++
	if loaded(e.saved()) != nil {
		t.Error("more accepted items than may be are taken")
	}
}
