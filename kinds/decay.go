package kinds

import (
	"sketch/api"
	"sketch/item"
	"sketch/pack"
	"sketch/weight"
)

// decayNotes keeps the sum by MaxWeight, since the whole of it may be more than an int can hold.
type decayNotes struct {
	config    api.Config
	quotient  int
	remainder int
}

func startDecay(c api.Config) Notes {
	d := &decayNotes{config: c}
	return Notes{Release: d.release, Query: d.query, Sweep: sweepNothing, Save: d.save, Load: d.load}
}

func (d *decayNotes) release(it item.Item, _ int) {
	sum := d.remainder + weight.OrZero(d.config, it.Time)
	d.quotient += sum / api.MaxWeight
	d.remainder = sum % api.MaxWeight
}

func (d *decayNotes) query(_, watermark int) ([]int, api.Errno) {
	return []int{d.quotient, d.remainder, weight.OrZero(d.config, watermark)}, api.OK
}

func (d *decayNotes) save(w *pack.Writer, _ int) {
	w.Number(d.quotient)
	w.Number(d.remainder)
}

// load knows that an item weighs at least 1 and at most MaxWeight.
func (d *decayNotes) load(r *pack.Reader, known *Known) {
	d.quotient = r.Number(0, known.Released)
	d.remainder = r.Number(0, api.MaxWeight-1)
	r.Check(d.quotient < known.Released || d.remainder == 0)
	r.Check(d.quotient > 0 || d.remainder >= known.Released)
}
