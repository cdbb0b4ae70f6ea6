package kinds

import (
	"sketch/api"
	"sketch/item"
	"sketch/weight"
)

// decayNotes keeps the sum by MaxWeight, since the whole of it may be more than an int can hold.
type decayNotes struct {
	config    api.Config
	quotient  int
	remainder int
}

func startDecay(c api.Config) Notes {
	d := &decayNotes{config: c}
	return Notes{Release: d.release, Query: d.query, Sweep: sweepNothing}
}

func (d *decayNotes) release(it item.Item, _ int) {
	sum := d.remainder + weight.OrZero(d.config, it.Time)
	d.quotient += sum / api.MaxWeight
	d.remainder = sum % api.MaxWeight
}

func (d *decayNotes) query(_, watermark int) ([]int, api.Errno) {
	return []int{d.quotient, d.remainder, weight.OrZero(d.config, watermark)}, api.OK
}
