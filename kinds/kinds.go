// Package kinds has what hangs on the kind of a series, as structs of functions.
package kinds

import (
	"sketch/api"
	"sketch/item"
	"sketch/limit"
	"sketch/pack"
)

// Kind is what one kind does in its own way.
type Kind struct {
	// Fits tells whether what this kind names in a configuration is as it may be.
	Fits func(c api.Config) bool
	// Named is where the numbers stand that this kind names in a configuration, but for Seeds.
	Named func(c *api.Config) []*int
	// Pairs is how many pairs of Seeds it names.
	Pairs func(c api.Config) int
	// Refuse is the first error that only this kind finds in an item; OK if there is none.
	Refuse func(c api.Config, it item.Item) api.Errno
	// Asked is where the numbers stand that this kind looks at in an item.
	Asked func(it *item.Item) []*int
	// Start makes the notes of a new series.
	Start func(c api.Config) Notes
}

// Notes is what a series keeps of its released items, reached by the functions of its kind.
type Notes struct {
	// Release takes an item that this watermark lets go.
	Release func(it item.Item, watermark int)
	Query   func(a, watermark int) ([]int, api.Errno)
	// Sweep throws away what is dead by this watermark, up to the budget; it tells how much it threw away and how much of it is left.
	Sweep func(watermark, budget int) (thrown, left int)
	// Save writes all that a step may yet tell, by this watermark.
	Save func(w *pack.Writer, watermark int)
	// Load reads into new notes what Save wrote. What no released items could have left makes the reader wrong.
	Load func(r *pack.Reader, known *Known)
}

// Of is the kind of a configuration; false if it is no configuration.
func Of(c api.Config) (Kind, bool) {
	kind, known := find(c.Kind)
	if !known || !commonFits(c) || !kind.Fits(c) {
		return Kind{}, false
	}
	return kind, true
}

func find(number int) (Kind, bool) {
	table := [...]Kind{
		api.Count:    {Fits: countFits, Named: countNamed, Pairs: noPairs, Refuse: refuseNothing, Asked: askTime, Start: startCount},
		api.Distinct: {Fits: distinctFits, Named: distinctNamed, Pairs: onePair, Refuse: refuseKey, Asked: askKey, Start: startDistinct},
		api.Often:    {Fits: oftenFits, Named: oftenNamed, Pairs: pairOfEachRow, Refuse: refuseKey, Asked: askKey, Start: startOften},
		api.Decay:    {Fits: decayFits, Named: decayNamed, Pairs: noPairs, Refuse: refuseWeightless, Asked: askTime, Start: startDecay},
		api.Drawn:    {Fits: drawnFits, Named: drawnNamed, Pairs: noPairs, Refuse: refuseDrawn, Asked: askDraw, Start: startDrawn},
	}
	if !limit.Within(number, api.Count, len(table)-1) {
		return Kind{}, false
	}
	return table[number], true
}

// sweepNothing serves the kinds that have no buckets.
func sweepNothing(int, int) (thrown, left int) { return 0, 0 }
