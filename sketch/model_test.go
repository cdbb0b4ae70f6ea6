package sketch_test

import (
	"cmp"
	"maps"
	"math/big"
	"math/rand"
	"slices"
	"testing"

	"sketch/api"
	"sketch/sketch"
)

// model is the document once more, as slow and as plain as can be: it keeps every item.
type model struct {
	clock int
	lines []*line
	saved map[string]*model // by the Bytes that a SAVE answered
}

type line struct {
	id      int
	c       api.Config
	waiting []thing
	gone    []thing // what was released
	row     []pail
	numbers int
	refused map[api.Errno]int
}

type thing struct{ time, key, draw, number int }

// pail is a bucket of COUNT; the newest one stands first in its row.
type pail struct{ time, size int }

func big64(n int) *big.Int { return big.NewInt(int64(n)) }

// bigWeight is nil if there is none.
func bigWeight(c api.Config, time int) *big.Int {
	age := new(big.Int).Sub(big64(time), big64(c.Mark))
	if age.Sign() < 0 {
		return nil
	}
	w := new(big.Int)
	if c.Half == 0 {
		w.Exp(age.Add(age, big.NewInt(1)), big64(c.Degree), nil)
	} else if age.Div(age, big64(c.Half)); age.Cmp(big.NewInt(1000)) > 0 {
		return nil
	} else {
		w.Lsh(big.NewInt(1), uint(age.Int64()))
	}
	if w.Cmp(big64(api.MaxWeight)) > 0 {
		return nil
	}
	return w
}

func (m *model) line(id int) *line {
	at := slices.IndexFunc(m.lines, func(l *line) bool { return l.id == id })
	if at < 0 {
		return nil
	}
	return m.lines[at]
}

func (m *model) add(l *line, op api.Op) api.Answer {
	k := l.c.Kind
	tests := []struct {
		applies bool
		code    api.Errno
	}{
		{op.A < 0 || op.A > api.MaxTime, api.ErrTime},
		{op.A <= m.clock-l.c.Lag, api.ErrLate},
		{op.A > m.clock+l.c.Skew, api.ErrFuture},
		{(k == api.Decay || k == api.Drawn) && bigWeight(l.c, op.A) == nil, api.ErrHorizon},
		{(k == api.Distinct || k == api.Often || k == api.Drawn) && (op.B < 0 || op.B > api.MaxKey), api.ErrKey},
		{k == api.Drawn && (op.C < 1 || op.C > api.MaxDraw), api.ErrDraw},
		{len(l.waiting) == l.c.Cap, api.ErrCap},
	}
	for _, x := range tests {
		if x.applies {
			l.refused[x.code]++
			return api.Answer{Code: x.code}
		}
	}
	l.numbers++
	l.waiting = append(l.waiting, thing{op.A, op.B, op.C, l.numbers})
	return api.Answer{Numbers: []int{l.numbers}}
}

func (m *model) tick(time, budget int) (left int) {
	m.clock = max(m.clock, time)
	for _, l := range m.lines {
		m.release(l)
	}
	for _, l := range m.lines {
		for ; budget > 0 && m.dead(l) > 0; budget-- {
			l.row = l.row[:len(l.row)-1]
		}
		left += m.dead(l)
	}
	return left
}

func (m *model) release(l *line) {
	slices.SortFunc(l.waiting, func(a, b thing) int {
		return cmp.Or(cmp.Compare(a.time, b.time), cmp.Compare(a.number, b.number))
	})
	for len(l.waiting) > 0 && l.waiting[0].time <= m.clock-l.c.Lag {
		l.gone = append(l.gone, l.waiting[0])
		if l.c.Kind == api.Count {
			l.row = l.row[:len(l.row)-m.dead(l)]
			l.row = slices.Insert(l.row, 0, pail{l.waiting[0].time, 1})
			l.joinAll()
		}
		l.waiting = l.waiting[1:]
	}
}

func (m *model) dead(l *line) int {
	n := 0
	for _, p := range l.row {
		if p.time <= m.clock-l.c.Lag-l.c.Window {
			n++
		}
	}
	return n
}

// joinAll goes through all sizes, whether the one ahead was joined or not.
func (l *line) joinAll() {
	for bit := range 61 {
		var places []int
		for i, p := range l.row {
			if p.size == 1<<bit {
				places = append(places, i)
			}
		}
		if len(places) <= l.c.K+1 {
			continue
		}
		newer, older := places[len(places)-2], places[len(places)-1]
		l.row[newer].size *= 2
		l.row = slices.Delete(l.row, older, older+1)
	}
}

func (m *model) estimate(l *line, w int) int {
	sum, half := 0, 0
	for _, p := range l.row {
		if p.time > m.clock-l.c.Lag-w {
			sum += p.size
			half = p.size / 2
		}
	}
	return sum - half
}

// within is the items that are, just so.
func (m *model) within(l *line, w int) []thing {
	var list []thing
	for _, x := range l.gone {
		if x.time > m.clock-l.c.Lag-w {
			list = append(list, x)
		}
	}
	return list
}

func (m *model) decay(l *line) []int {
	sum, rest := new(big.Int), new(big.Int)
	for _, x := range l.gone {
		sum.Add(sum, bigWeight(l.c, x.time))
	}
	sum.DivMod(sum, big64(api.MaxWeight), rest)
	now := bigWeight(l.c, m.clock-l.c.Lag)
	if now == nil {
		now = new(big.Int)
	}
	return []int{int(sum.Int64()), int(rest.Int64()), int(now.Int64())}
}

func bigHash(pair [2]int, key int) int {
	h := new(big.Int).Mul(big64(pair[0]), big64(key))
	h.Add(h, big64(pair[1]))
	return int(h.Mod(h, big64(api.Prime)).Int64())
}

// ranked halves as the document says it.
func ranked(quotient int) int {
	if quotient == 0 {
		return 40
	}
	rank := 1
	for ; quotient%2 == 0; quotient /= 2 {
		rank++
	}
	return min(rank, 40)
}

func (m *model) distinct(l *line, w int) []int {
	registers := 1 << l.c.Bits
	numbers := make([]int, registers)
	for _, x := range m.within(l, w) {
		h := bigHash(l.c.Seeds[0], x.key)
		numbers[h%registers] = max(numbers[h%registers], ranked(h/registers))
	}
	sum := new(big.Int)
	for _, n := range numbers {
		sum.Add(sum, new(big.Int).Lsh(big.NewInt(10), uint(40-n)))
	}
	top := new(big.Int).Lsh(big64(7*registers*registers), 40)
	return append(numbers, int(top.Div(top, sum).Int64()))
}

// often goes through all times of the Window to see which panes are counted.
func (m *model) often(l *line, key int) int {
	length, mark := l.c.Window/l.c.Panes, m.clock-l.c.Lag
	panes := map[int]bool{}
	for time := max(0, mark-l.c.Window+1); time <= mark; time++ {
		panes[time/length] = true
	}
	var counts []int
	for _, pair := range l.c.Seeds[:l.c.Rows] {
		n := 0
		for _, x := range l.gone {
			if panes[x.time/length] && bigHash(pair, x.key)%l.c.Width == bigHash(pair, key)%l.c.Width {
				n++
			}
		}
		counts = append(counts, n)
	}
	return slices.Min(counts)
}

func (m *model) drawn(l *line) []int {
	quotient := func(x thing) *big.Rat { return new(big.Rat).SetFrac(bigWeight(l.c, x.time), big64(x.draw)) }
	list := slices.Clone(l.gone)
	slices.SortFunc(list, func(a, b thing) int {
		return cmp.Or(quotient(b).Cmp(quotient(a)), cmp.Compare(a.number, b.number))
	})
	var numbers []int
	for i, x := range list {
		if i == l.c.Size {
			return append(numbers, int(bigWeight(l.c, x.time).Int64()), x.draw)
		}
		numbers = append(numbers, x.time, x.key, x.draw)
	}
	return append(numbers, 0, 0)
}

func (m *model) clone() *model {
	other := &model{clock: m.clock}
	for _, l := range m.lines {
		x := *l
		x.waiting, x.gone, x.row, x.refused = slices.Clone(l.waiting), slices.Clone(l.gone), slices.Clone(l.row), maps.Clone(l.refused)
		other.lines = append(other.lines, &x)
	}
	return other
}

// keep is for a SAVE; its Bytes are in a form that only the program knows.
func (m *model) keep(bytes string) {
	if m.saved == nil {
		m.saved = map[string]*model{}
	}
	m.saved[bytes] = m.clone()
}

func (m *model) load(bytes string) api.Answer {
	known := m.saved[bytes]
	if known == nil {
		return api.Answer{Code: api.ErrBytes}
	}
	whole := known.clone()
	m.clock, m.lines = whole.clock, whole.lines
	return api.Answer{}
}

// step answers; false if the Bytes of the answer are left to the program.
func (m *model) step(op api.Op) (api.Answer, bool) {
	l := m.line(op.Id)
	switch {
	case op.Kind == api.Create:
		return m.create(l, op), true
	case op.Kind == api.Tick:
		return m.checkedTick(op), true
	case op.Kind == api.Save:
		return api.Answer{}, false
	case op.Kind == api.Load:
		return m.load(op.Bytes), true
	case op.Kind < api.Create || op.Kind > api.Load:
		return api.Answer{Code: api.ErrKind}, true
	case l == nil:
		return api.Answer{Code: api.ErrId}, true
	case op.Kind == api.Add:
		return m.add(l, op), true
	case op.Kind == api.Query:
		return m.query(l, op), true
	}
	r := l.refused
	return api.Answer{Numbers: []int{l.numbers, len(l.gone), r[api.ErrTime], r[api.ErrLate], r[api.ErrFuture], r[api.ErrHorizon], r[api.ErrKey], r[api.ErrDraw], r[api.ErrCap]}}, true
}

func (m *model) create(l *line, op api.Op) api.Answer {
	switch {
	case op.Id < 0 || op.Id > 99 || l != nil:
		return api.Answer{Code: api.ErrId}
	case !fits(op.Config):
		return api.Answer{Code: api.ErrConfig}
	case len(m.lines) == 6:
		return api.Answer{Code: api.ErrFull}
	}
	m.lines = append(m.lines, &line{id: op.Id, c: op.Config, refused: map[api.Errno]int{}})
	return api.Answer{}
}

func (m *model) query(l *line, op api.Op) api.Answer {
	k := l.c.Kind
	switch {
	case (k == api.Count || k == api.Distinct) && (op.A < 1 || op.A > l.c.Window):
		return api.Answer{Code: api.ErrRange}
	case k == api.Often && (op.A < 0 || op.A > api.MaxKey):
		return api.Answer{Code: api.ErrKey}
	case k == api.Count:
		return api.Answer{Numbers: []int{m.estimate(l, op.A)}}
	case k == api.Distinct:
		return api.Answer{Numbers: m.distinct(l, op.A)}
	case k == api.Often:
		return api.Answer{Numbers: []int{m.often(l, op.A)}}
	case k == api.Decay:
		return api.Answer{Numbers: m.decay(l)}
	}
	return api.Answer{Numbers: m.drawn(l)}
}

func (m *model) checkedTick(op api.Op) api.Answer {
	if op.A < 0 || op.A > api.MaxTime {
		return api.Answer{Code: api.ErrTime}
	}
	if op.B < 0 || op.B > 100 {
		return api.Answer{Code: api.ErrBudget}
	}
	return api.Answer{Numbers: []int{m.tick(op.A, op.B)}}
}

// someSeeds has pairs that are alike, at times, and such as leave few places and many ranks.
func someSeeds(r *rand.Rand) [3][2]int {
	var seeds [3][2]int
	for i := range seeds {
		first := []int{1, 2, 1 << (30 + r.Intn(31)), api.Prime - 1, 1 + r.Intn(api.Prime-1)}
		second := []int{0, 0, r.Intn(50), api.Prime - 1, r.Intn(api.Prime)}
		seeds[i] = [2]int{first[r.Intn(len(first))], second[r.Intn(len(second))]}
		if i > 0 && r.Intn(3) == 0 {
			seeds[i] = seeds[r.Intn(i)]
		}
	}
	return seeds
}

// modelScript goes on slowly with the time, so that items are late, wait and are released; one of some edges at times.
func modelScript(r *rand.Rand, length int) []api.Op {
	clock := []int{0, 0, 50, 1<<20 + 300000, 1<<61 - 20, api.MaxTime - 60}[r.Intn(6)]
	script := []api.Op{tick(clock, 0)}
	for range 8 {
		c := base(1 + r.Intn(5))
		c.Lag, c.Skew, c.Cap = r.Intn(8), r.Intn(12), 1+r.Intn(8)
		c.Degree, c.Half, c.Mark = r.Intn(4), r.Intn(3), max(0, clock-70+r.Intn(80))
		c.K, c.Window, c.Bits, c.Size = 1+r.Intn(3), 1+r.Intn(30), 1+r.Intn(4), 1+r.Intn(5)
		c.Rows, c.Width, c.Panes, c.Seeds = 1+r.Intn(3), 1+r.Intn(16), 1+r.Intn(8), someSeeds(r)
		if c.Kind == api.Often {
			c.Window = c.Panes * (1 + r.Intn(5))
		}
		script = append(script, create(r.Intn(9), c))
	}
	for len(script) < length {
		id := r.Intn(9)
		switch n := r.Intn(20); {
		case n < 10:
			script = append(script, add(id, clock+r.Intn(24)-10, r.Intn(40)-1, r.Intn(40)-1))
		case n < 13:
			clock += r.Intn(5)
			script = append(script, tick(clock-r.Intn(2), r.Intn(3)))
		case n < 16:
			script = append(script, ask(id, r.Intn(33)))
		case n < 19:
			script = append(script, stats(id))
		default:
			script = append(script, wildScript(r, 1)...)
			if script[len(script)-1].Kind == api.Tick && r.Intn(4) > 0 {
				script = script[:len(script)-1] // else every clock would soon be at its end
			}
		}
	}
	return script
}

// asTheModel plays the script beside a model; it counts the codes that it met.
func asTheModel(t *testing.T, script []api.Op, met map[api.Errno]int) {
	t.Helper()
	m := &model{}
	for i, a := range sketch.Run(script) {
		want, asked := m.step(script[i])
		if !asked {
			want.Bytes = a.Bytes
			m.keep(a.Bytes)
		}
		if !sameAnswer(want, a) {
			t.Fatalf("step %d %+v: answered %+v, want %+v", i, script[i], a, want)
		}
		met[a.Code]++
	}
}

func TestAsTheModel(t *testing.T) {
	r := rand.New(rand.NewSource(3))
	met := map[api.Errno]int{}
	for range 2000 {
		asTheModel(t, modelScript(r, 80), met)
	}
	for code := api.OK; code <= api.ErrBytes; code++ {
		if met[code] == 0 {
			t.Errorf("the scripts never met the error %d", code)
		}
	}
}
