package kinds

import (
	"math/bits"

	"sketch/api"
	"sketch/item"
	"sketch/limit"
	"sketch/pack"
	"sketch/row"
)

// maxSizes is as many as there are up to 2 to the 61: no script comes to twice as many items.
const maxSizes = 62

// bucket stands for as many items as its size, the newest of which has its time.
type bucket struct {
	size int
	time int
}

// countNotes has its buckets in a row: their sizes never grow from one to the next newer one.
type countNotes struct {
	config  api.Config
	buckets *row.Row[bucket]
}

func startCount(c api.Config) Notes {
	n := newCount(c)
	return Notes{Release: n.release, Query: n.query, Sweep: n.sweep, Save: n.save, Load: n.load}
}

func newCount(c api.Config) *countNotes {
	return &countNotes{config: c, buckets: row.New(func(b bucket) int { return b.time })}
}

// release loses the dead ahead of all else: were they joined with others, budgets would change the estimates.
func (n *countNotes) release(it item.Item, watermark int) {
	n.buckets.Lose(n.dead(watermark))
	n.buckets.Put(bucket{size: 1, time: it.Time})
	n.join()
}

// join stops at the first size of which there are not too many: nothing was added to the greater ones.
func (n *countNotes) join() {
	end := n.buckets.Len()
	for size := 1; ; size *= 2 {
		start := n.startOf(size, end)
		if end-start <= n.config.K+1 {
			return
		}
		newer := n.buckets.At(start + 1)
		n.buckets.Join(start, bucket{size: 2 * size, time: newer.time})
		end = start + 1
	}
}

// startOf is the place of the oldest bucket of a size, if those of this size end ahead of end; else end.
func (n *countNotes) startOf(size, end int) int {
	start := end
	for start > 0 && n.buckets.At(start-1).size == size {
		start--
	}
	return start
}

func (n *countNotes) query(a, watermark int) ([]int, api.Errno) {
	if !limit.Within(a, 1, n.config.Window) {
		return nil, api.ErrRange
	}
	return []int{n.estimate(watermark - a)}, api.OK
}

// estimate is of the items whose time is above past; of the oldest bucket, some may be older.
func (n *countNotes) estimate(past int) int {
	oldest := n.buckets.Past(past)
	if oldest == n.buckets.Len() {
		return 0
	}
	sum := 0
	for place := oldest; place < n.buckets.Len(); place++ {
		sum += n.buckets.At(place).size
	}
	return sum - n.buckets.At(oldest).size/2
}

func (n *countNotes) sweep(watermark, budget int) (thrown, left int) {
	dead := n.dead(watermark)
	thrown = min(dead, budget)
	n.buckets.Lose(thrown)
	return thrown, dead - thrown
}

// dead is how many buckets are; they are the oldest ones.
func (n *countNotes) dead(watermark int) int {
	return n.buckets.Past(watermark - n.config.Window)
}

// save goes from size to size, the greatest first: none is left out below it. Dead buckets are saved too, since a TICK tells of them.
func (n *countNotes) save(w *pack.Writer, _ int) {
	sizes, start := 0, 0
	if n.buckets.Len() > 0 {
		sizes = bits.Len(uint(n.buckets.At(0).size))
	}
	w.Number(sizes)
	for bit := sizes - 1; bit >= 0; bit-- {
		next := n.endOf(1<<bit, start)
		w.Number(next - start)
		for ; start < next; start++ {
			w.Number(n.buckets.At(start).time)
		}
	}
}

// endOf is the place behind the newest bucket of a size, if those of this size start at start.
func (n *countNotes) endOf(size, start int) int {
	end := start
	for end < n.buckets.Len() && n.buckets.At(end).size == size {
		end++
	}
	return end
}

// load asks for K buckets at least of each size but the greatest: so many are left when two of them are joined, and the greatest ones are lost first.
func (n *countNotes) load(r *pack.Reader, known *Known) {
	least, items, time := 1, 0, 0
	for bit := r.Number(0, maxSizes) - 1; bit >= 0; bit-- {
		for range r.Number(least, n.config.K+1) {
			time = r.Number(time, known.Watermark)
			n.buckets.Put(bucket{size: 1 << bit, time: time})
			items += 1 << bit
			r.Check(items <= known.Released)
		}
		least = n.config.K
	}
}
