package sketch_test

import (
	"fmt"
	"math"
	"testing"

	"sketch/api"
)

// field is a number of a configuration with the limits that the document names.
type field struct {
	name      string
	of        func(c *api.Config) *int
	low, high int
}

func commonFields() []field {
	return []field{
		{"Lag", func(c *api.Config) *int { return &c.Lag }, 0, 100},
		{"Skew", func(c *api.Config) *int { return &c.Skew }, 0, 100},
		{"Cap", func(c *api.Config) *int { return &c.Cap }, 1, 8},
	}
}

func weightFields() []field {
	return []field{
		{"Degree", func(c *api.Config) *int { return &c.Degree }, 0, 3},
		{"Half", func(c *api.Config) *int { return &c.Half }, 0, 100},
		{"Mark", func(c *api.Config) *int { return &c.Mark }, 0, 1 << 62},
	}
}

func windowField() field {
	return field{"Window", func(c *api.Config) *int { return &c.Window }, 1, 1000}
}

func seedFields(pair int) []field {
	return []field{
		{fmt.Sprint("first Seed of pair ", pair), func(c *api.Config) *int { return &c.Seeds[pair][0] }, 1, 1<<61 - 2},
		{fmt.Sprint("second Seed of pair ", pair), func(c *api.Config) *int { return &c.Seeds[pair][1] }, 0, 1<<61 - 2},
	}
}

// fieldsOf is what the kind of c names.
func fieldsOf(c api.Config) []field {
	list := commonFields()
	switch c.Kind {
	case api.Count:
		list = append(list, windowField(), field{"K", func(c *api.Config) *int { return &c.K }, 1, 10})
	case api.Distinct:
		list = append(list, windowField(), field{"Bits", func(c *api.Config) *int { return &c.Bits }, 1, 4})
		list = append(list, seedFields(0)...)
	case api.Often:
		list = append(list, windowField(),
			field{"Rows", func(c *api.Config) *int { return &c.Rows }, 1, 3},
			field{"Width", func(c *api.Config) *int { return &c.Width }, 1, 16},
			field{"Panes", func(c *api.Config) *int { return &c.Panes }, 1, 8})
		for pair := range min(c.Rows, 3) {
			list = append(list, seedFields(pair)...)
		}
	case api.Decay:
		list = append(list, weightFields()...)
	case api.Drawn:
		list = append(list, field{"Size", func(c *api.Config) *int { return &c.Size }, 1, 5})
		list = append(list, weightFields()...)
	}
	return list
}

// fits is the document's word on configurations.
func fits(c api.Config) bool {
	if c.Kind < 1 || c.Kind > 5 {
		return false
	}
	for _, f := range fieldsOf(c) {
		if n := *f.of(&c); n < f.low || n > f.high {
			return false
		}
	}
	return c.Kind != api.Often || c.Window%c.Panes == 0
}

func zeros() []int { return make([]int, 9) }

func checkConfig(t *testing.T, what string, c api.Config, fits bool) {
	t.Helper()
	if fits {
		check(t, "P3: a configuration: "+what, good(create(7, c)), good(stats(7), zeros()...))
		return
	}
	check(t, "P3: no configuration: "+what, bad(create(7, c), api.ErrConfig), bad(stats(7), api.ErrId))
}

func TestP3EachLimitOfAConfiguration(t *testing.T) {
	for _, kind := range allKinds() {
		checkConfig(t, fmt.Sprint("kind ", kind), base(kind), true)
		for _, f := range fieldsOf(base(kind)) {
			for _, n := range []int{math.MinInt, -1, f.low - 1, f.low, f.low + 1, f.high - 1, f.high, f.high + 1, math.MaxInt} {
				c := base(kind)
				*f.of(&c) = n
				checkConfig(t, fmt.Sprintf("kind %d, %s %d", kind, f.name, n), c, fits(c))
			}
		}
	}
}

func TestP3KindsOfConfigurations(t *testing.T) {
	for _, kind := range []int{math.MinInt, -1, 0, 6, 7, 100, math.MaxInt} {
		c := base(api.Count)
		c.Kind = kind
		checkConfig(t, fmt.Sprint("kind ", kind), c, false)
	}
	checkConfig(t, "all zero", api.Config{}, false)
}

func TestP3PanesAndWindow(t *testing.T) {
	for _, c := range []struct {
		panes, window int
		fits          bool
	}{
		{1, 1, true}, {1, 1000, true}, {1, 1001, false}, {8, 8, true}, {8, 1000, true}, {8, 999, false}, {8, 7, false}, {8, 12, false}, {7, 994, true}, {7, 1000, false}, {2, 3, false}, {3, 3, true},
		{8, 1008, false}, {8, 0, false}, {1, 0, false}, {8, -8, false}, {0, 8, false}, {-1, 8, false}, {-8, 8, false}, {9, 9, false}, {0, 0, false}, {math.MinInt, 8, false}, {math.MaxInt, 8, false}, {1, math.MinInt, false}, {1, math.MaxInt, false}, {-1, math.MinInt, false},
	} {
		o := base(api.Often)
		o.Panes, o.Window = c.panes, c.window
		checkConfig(t, fmt.Sprintf("Panes %d, Window %d", c.panes, c.window), o, c.fits)
	}
}

func TestP3AsManySeedsAsRows(t *testing.T) {
	for rows := 1; rows <= 3; rows++ {
		for pair := range 3 {
			o := base(api.Often)
			o.Rows = rows
			o.Seeds = [3][2]int{{1, 0}, {1, 0}, {1, 0}}
			checkConfig(t, fmt.Sprint("Rows ", rows), o, true)
			for _, seeds := range [][2]int{{0, 0}, {-1, 0}, {1, -1}, {api.Prime, 0}, {1, api.Prime}, {math.MinInt, 0}, {1, math.MaxInt}} {
				o.Seeds[pair] = seeds
				checkConfig(t, fmt.Sprintf("Rows %d, pair %d %v", rows, pair, seeds), o, pair >= rows)
			}
		}
	}
	for _, rows := range []int{math.MinInt, -1, 0, 4, math.MaxInt} {
		o := base(api.Often)
		o.Seeds = [3][2]int{{1, 0}, {1, 0}, {1, 0}}
		o.Rows = rows
		checkConfig(t, fmt.Sprint("Rows ", rows), o, false)
	}
	o := base(api.Often)
	o.Seeds[1] = o.Seeds[0]
	checkConfig(t, "two pairs alike", o, true)
}

// What a kind does not name may be anything, also for the items that come.
func TestP3UnnamedFieldsMayBeAnything(t *testing.T) {
	for _, kind := range allKinds() {
		for _, n := range []int{math.MinInt, -1, 0, math.MaxInt} {
			b := base(kind)
			c := api.Config{Kind: kind, Lag: b.Lag, Skew: b.Skew, Cap: b.Cap, K: n, Window: n, Bits: n, Rows: n, Width: n, Panes: n, Size: n, Degree: n, Half: n, Mark: n, Seeds: [3][2]int{{n, n}, {n, n}, {n, n}}}
			switch kind {
			case api.Count:
				c.K, c.Window = b.K, b.Window
			case api.Distinct:
				c.Bits, c.Window, c.Seeds[0] = b.Bits, b.Window, b.Seeds[0]
			case api.Often:
				c.Rows, c.Width, c.Panes, c.Window = b.Rows, b.Width, b.Panes, b.Window
				c.Seeds[0], c.Seeds[1] = b.Seeds[0], b.Seeds[1]
			case api.Drawn:
				c.Size = b.Size
				fallthrough
			case api.Decay:
				c.Degree, c.Half, c.Mark = b.Degree, b.Half, b.Mark
			}
			check(t, fmt.Sprintf("P3: kind %d, all else %d", kind, n), good(create(7, c)), good(addAt(7, 1), 1), good(tick(3, 0), 0), good(stats(7), 1, 1, 0, 0, 0, 0, 0, 0, 0))
		}
	}
}

func TestP3Ids(t *testing.T) {
	c := base(api.Decay)
	check(t, "P3: Ids",
		bad(create(-1, c), api.ErrId), bad(create(100, c), api.ErrId), bad(create(math.MinInt, c), api.ErrId), bad(create(math.MaxInt, c), api.ErrId),
		good(create(0, c)), good(create(99, c)), bad(create(0, c), api.ErrId), bad(create(99, base(api.Count)), api.ErrId), bad(stats(1), api.ErrId), good(create(1, c)), good(stats(1), zeros()...))
	check(t, "P3: CREATE of an Id that there is leaves its series",
		good(create(5, c)), good(addAt(5, 1), 1), bad(create(5, base(api.Drawn)), api.ErrId), good(stats(5), 1, 0, 0, 0, 0, 0, 0, 0, 0), good(add(5, 1, -1, -1), 2))
	for _, op := range []func(id int) api.Op{stats, query, func(id int) api.Op { return addAt(id, 1) }} {
		for _, id := range []int{math.MinInt, -1, 0, 6, 99, 100, math.MaxInt} {
			check(t, "P3: no series of this Id", bad(op(id), api.ErrId), good(create(5, c)), bad(op(id), api.ErrId), good(stats(5), zeros()...))
		}
	}
}

func TestP3CreateErrorsInOrder(t *testing.T) {
	c, none := base(api.Decay), api.Config{}
	steps := []step{bad(create(-1, none), api.ErrId), bad(create(100, none), api.ErrId), bad(create(3, none), api.ErrConfig)}
	for id := range api.MaxSeries {
		steps = append(steps, good(create(id, base(1+id%5))))
	}
	steps = append(steps,
		bad(create(6, c), api.ErrFull), bad(stats(6), api.ErrId), bad(create(6, none), api.ErrConfig), bad(create(5, c), api.ErrId), bad(create(5, none), api.ErrId), bad(create(100, c), api.ErrId), bad(create(-1, none), api.ErrId),
		bad(create(6, c), api.ErrFull))
	for id := range api.MaxSeries {
		steps = append(steps, good(stats(id), zeros()...))
	}
	check(t, "P3: the order of CREATE's errors", steps...)
}

func TestP3RefusedCreatesTakeNoRoom(t *testing.T) {
	var steps []step
	for range 10 {
		steps = append(steps, bad(create(1, api.Config{}), api.ErrConfig), bad(create(-1, base(api.Count)), api.ErrId))
	}
	for id := range 6 {
		steps = append(steps, good(create(10+id, base(api.Count))))
	}
	check(t, "P3: refused CREATEs", append(steps, bad(create(1, base(api.Count)), api.ErrFull))...)
}
