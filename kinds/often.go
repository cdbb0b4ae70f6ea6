package kinds

import (
	"sketch/api"
	"sketch/hash"
	"sketch/item"
	"sketch/limit"
	"sketch/pack"
	"sketch/row"
)

// cells is how many items fell on each place of each Row.
type cells [api.MaxRows][api.MaxWidth]int

// pane has the items of a stretch of times that begins at its number times its length.
type pane struct {
	number int
	counts cells
}

func (p pane) empty() bool { return p.counts == (cells{}) }

// oftenNotes fills one pane at a time; the row has those that were filled ahead of it.
type oftenNotes struct {
	config api.Config
	open   pane
	closed *row.Row[pane]
}

func startOften(c api.Config) Notes {
	n := newOften(c)
	return Notes{Release: n.release, Query: n.query, Sweep: sweepNothing, Save: n.save, Load: n.load}
}

func newOften(c api.Config) *oftenNotes {
	n := &oftenNotes{config: c}
	n.closed = row.New(n.lastTime)
	return n
}

func (n *oftenNotes) length() int { return n.config.Window / n.config.Panes }

// lastTime stands for the whole pane: as long as it is within a window, the pane has a time there.
func (n *oftenNotes) lastTime(p pane) int { return (p.number+1)*n.length() - 1 }

func (n *oftenNotes) release(it item.Item, watermark int) {
	n.turn(it.Time / n.length())
	n.closed.Lose(n.closed.Past(watermark - n.config.Window))
	places := n.places(it.Key)
	for r := range n.config.Rows {
		n.open.counts[r][places[r]]++
	}
}

// turn opens the pane of a number. The one that was open ahead of it is kept, unless it is empty as at the beginning.
func (n *oftenNotes) turn(number int) {
	if n.open.number == number {
		return
	}
	if !n.open.empty() {
		n.closed.Put(n.open)
	}
	n.open = pane{number: number}
}

// places is where a key falls in each Row; Rows of seeds that are alike need one hash.
func (n *oftenNotes) places(key int) [api.MaxRows]int {
	var all [api.MaxRows]int
	seeds := n.config.Seeds
	for r := range n.config.Rows {
		if r > 0 && seeds[r] == seeds[r-1] {
			all[r] = all[r-1]
			continue
		}
		all[r] = hash.Of(seeds[r], key) % n.config.Width
	}
	return all
}

func (n *oftenNotes) query(a, watermark int) ([]int, api.Errno) {
	if !limit.Key(a) {
		return nil, api.ErrKey
	}
	counts, places := n.counted(watermark-n.config.Window), n.places(a)
	least := counts[0][places[0]]
	for r := range n.config.Rows {
		least = min(least, counts[r][places[r]])
	}
	return []int{least}, api.OK
}

// counted is of the panes that have a time above past.
func (n *oftenNotes) counted(past int) cells {
	var sum cells
	for _, p := range n.panes(past) {
		sum.add(p.counts)
	}
	return sum
}

// panes is those that have a time above past and are not empty, the oldest first.
func (n *oftenNotes) panes(past int) []pane {
	var list []pane
	for place := n.closed.Past(past); place < n.closed.Len(); place++ {
		list = append(list, n.closed.At(place))
	}
	if n.lastTime(n.open) > past && !n.open.empty() {
		list = append(list, n.open)
	}
	return list
}

func (c *cells) add(other cells) {
	for r := range c {
		for place := range c[r] {
			c[r][place] += other[r][place]
		}
	}
}

// save leaves out the panes that are not counted any more: how long they are kept is not to be seen.
func (n *oftenNotes) save(w *pack.Writer, watermark int) {
	panes := n.panes(watermark - n.config.Window)
	w.Number(len(panes))
	for _, p := range panes {
		w.Number(p.number)
		for r := range n.config.Rows {
			for place := range n.config.Width {
				w.Number(p.counts[r][place])
			}
		}
	}
}

func (n *oftenNotes) load(r *pack.Reader, known *Known) {
	left, least := known.Released, 0
	for range r.Number(0, n.config.Panes+1) {
		number := r.Number(least, known.Watermark/n.length())
		n.turn(number)
		left -= n.fill(r, left)
		least = number + 1
	}
}

// fill is how many items the open pane has, which are the same in each Row.
func (n *oftenNotes) fill(r *pack.Reader, most int) int {
	items := 0
	for row := range n.config.Rows {
		sum := 0
		for place := range n.config.Width {
			count := r.Number(0, most-sum)
			n.open.counts[row][place] = count
			sum += count
		}
		r.Check(sum > 0 && (row == 0 || sum == items))
		items = sum
	}
	return items
}
