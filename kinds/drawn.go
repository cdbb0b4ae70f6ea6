package kinds

import (
	"math/bits"
	"slices"

	"sketch/api"
	"sketch/item"
	"sketch/limit"
	"sketch/pack"
	"sketch/queue"
	"sketch/weight"
)

// ticket is an item in the draw.
type ticket struct {
	item   item.Item
	weight int
}

// drawnNotes has one ticket more than Size, at most: none that falls behind these can ever be told.
type drawnNotes struct {
	config api.Config
	draw   *queue.Queue[ticket] // gives out first what goes last, as that is what is thrown away
}

func startDrawn(c api.Config) Notes {
	n := newDrawn(c)
	return Notes{Release: n.release, Query: n.query, Sweep: sweepNothing, Save: n.save, Load: n.load}
}

func newDrawn(c api.Config) *drawnNotes {
	return &drawnNotes{config: c, draw: queue.New(behind)}
}

func (n *drawnNotes) release(it item.Item, _ int) {
	n.draw.Put(ticket{item: it, weight: weight.OrZero(n.config, it.Time)})
	if n.draw.Len() > n.config.Size+1 {
		n.draw.Take()
	}
}

func behind(a, b ticket) bool { return ahead(b, a) }

// ahead compares two fractions by the products across, each of which needs two words.
func ahead(a, b ticket) bool {
	aHigh, aLow := bits.Mul64(uint64(a.weight), uint64(b.item.Draw))
	bHigh, bLow := bits.Mul64(uint64(b.weight), uint64(a.item.Draw))
	if aHigh != bHigh {
		return aHigh > bHigh
	}
	if aLow != bLow {
		return aLow > bLow
	}
	return a.item.Number < b.item.Number
}

func (n *drawnNotes) query(_, _ int) ([]int, api.Errno) {
	tickets := n.draw.All()
	slices.Reverse(tickets)
	var numbers []int
	for _, x := range tickets[:min(n.config.Size, len(tickets))] {
		numbers = append(numbers, x.item.Time, x.item.Key, x.item.Draw)
	}
	var next ticket
	if len(tickets) > n.config.Size {
		next = tickets[n.config.Size]
	}
	return append(numbers, next.weight, next.item.Draw), api.OK
}

func (n *drawnNotes) save(w *pack.Writer, _ int) {
	for _, x := range n.draw.All() {
		w.Number(x.item.Number)
		w.Parts(askDraw(&x.item))
	}
}

// load needs no word on how many tickets there are: as many were kept as could be.
func (n *drawnNotes) load(r *pack.Reader, known *Known) {
	for range min(known.Released, n.config.Size+1) {
		it := item.Item{Number: known.Number(r)}
		r.Parts(askDraw(&it))
		r.Check(limit.Within(it.Time, 0, known.Watermark) && refuseDrawn(n.config, it) == api.OK)
		if r.Wrong() {
			return
		}
		n.release(it, known.Watermark)
	}
}
