package kinds

import (
	"math/bits"

	"sketch/api"
	"sketch/hash"
	"sketch/item"
	"sketch/limit"
	"sketch/pack"
	"sketch/row"
)

// mark is what a register keeps of an item.
type mark struct {
	time int
	rank int
}

// distinctNotes has for each register a row of marks: their times rise and their ranks fall from one to the next newer one.
type distinctNotes struct {
	config    api.Config
	registers []*row.Row[mark]
}

func startDistinct(c api.Config) Notes {
	n := newDistinct(c)
	return Notes{Release: n.release, Query: n.query, Sweep: sweepNothing, Save: n.save, Load: n.load}
}

func newDistinct(c api.Config) *distinctNotes {
	registers := make([]*row.Row[mark], 1<<c.Bits)
	for i := range registers {
		registers[i] = row.New(func(x mark) int { return x.time })
	}
	return &distinctNotes{config: c, registers: registers}
}

func (n *distinctNotes) release(it item.Item, watermark int) {
	h, m := hash.Of(n.config.Seeds[0], it.Key), len(n.registers)
	register := n.registers[h%m]
	register.Lose(register.Past(watermark - n.config.Window))
	keep(register, mark{time: it.Time, rank: rankOf(h / m)})
}

// rankOf needs no word on 0: it has 64 trailing zeros, more than MaxRho.
func rankOf(quotient int) int {
	return min(1+bits.TrailingZeros64(uint64(quotient)), api.MaxRho)
}

// keep leaves only marks that are the greatest of some window: every window that has an older one has the newer ones too.
func keep(register *row.Row[mark], x mark) {
	for register.Len() > 0 && newest(register).rank <= x.rank {
		register.Drop(1)
	}
	if register.Len() > 0 && newest(register).time == x.time {
		return
	}
	register.Put(x)
}

func newest(register *row.Row[mark]) mark { return register.At(register.Len() - 1) }

func (n *distinctNotes) query(a, watermark int) ([]int, api.Errno) {
	if !limit.Within(a, 1, n.config.Window) {
		return nil, api.ErrRange
	}
	m, sum := len(n.registers), 0
	numbers := make([]int, 0, m+1)
	for _, register := range n.registers {
		greatest := greatestPast(register, watermark-a)
		numbers = append(numbers, greatest)
		sum += 1 << (api.MaxRho - greatest)
	}
	return append(numbers, 7*m*m<<api.MaxRho/(10*sum)), api.OK
}

// greatestPast is that of the oldest mark above past, since the ranks fall; 0 if there is none.
func greatestPast(register *row.Row[mark], past int) int {
	oldest := register.Past(past)
	if oldest == register.Len() {
		return 0
	}
	return register.At(oldest).rank
}

// save leaves out what no window reaches any more: how long it is kept is not to be seen.
func (n *distinctNotes) save(w *pack.Writer, watermark int) {
	for _, register := range n.registers {
		oldest := register.Past(watermark - n.config.Window)
		w.Number(register.Len() - oldest)
		for place := oldest; place < register.Len(); place++ {
			w.Number(register.At(place).time)
			w.Number(register.At(place).rank)
		}
	}
}

func (n *distinctNotes) load(r *pack.Reader, known *Known) {
	items := 0
	for _, register := range n.registers {
		last := mark{time: -1, rank: api.MaxRho + 1}
		for range r.Number(0, api.MaxRho) {
			last = mark{time: r.Number(last.time+1, known.Watermark), rank: r.Number(1, last.rank-1)}
			register.Put(last)
			items++
		}
	}
	r.Check(items <= known.Released)
}
