package kinds

import (
	"slices"

	"sketch/api"
	"sketch/pack"
)

// SaveConfig writes what is named in a configuration; the rest of it is never told.
func SaveConfig(w *pack.Writer, c api.Config) {
	kind, _ := find(c.Kind)
	w.Number(c.Kind)
	w.Parts(commonNamed(&c))
	w.Parts(kind.Named(&c))
	w.Parts(seeds(&c, kind.Pairs(c)))
}

// LoadConfig reads it again, and its kind; false if it is no configuration.
func LoadConfig(r *pack.Reader) (api.Config, Kind, bool) {
	var c api.Config
	r.Parts([]*int{&c.Kind})
	kind, known := find(c.Kind)
	if !known {
		return c, kind, false
	}
	r.Parts(commonNamed(&c))
	r.Parts(kind.Named(&c))
	r.Parts(seeds(&c, min(kind.Pairs(c), len(c.Seeds))))
	kind, good := Of(c)
	return c, kind, good
}

// seeds is where the numbers of the first pairs stand.
func seeds(c *api.Config, pairs int) []*int {
	var list []*int
	for i := range pairs {
		list = append(list, &c.Seeds[i][0], &c.Seeds[i][1])
	}
	return list
}

// Known is what is known of a series when its notes are loaded.
type Known struct {
	Watermark int
	Accepted  int
	Released  int
	numbers   []int // of the items that were read
}

// Number reads that of an item: no two have the same.
func (k *Known) Number(r *pack.Reader) int {
	n := r.Number(1, k.Accepted)
	r.Check(!slices.Contains(k.numbers, n))
	k.numbers = append(k.numbers, n)
	return n
}
