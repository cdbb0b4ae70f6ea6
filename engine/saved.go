package engine

import (
	"sketch/api"
	"sketch/item"
	"sketch/kinds"
	"sketch/pack"
)

func (e *Engine) saved() string {
	w := pack.NewWriter()
	w.Number(e.clock)
	w.Number(len(e.series))
	for _, s := range e.series {
		s.save(w, e.clock)
	}
	return w.Close()
}

func (s *series) save(w *pack.Writer, clock int) {
	w.Number(s.id)
	kinds.SaveConfig(w, s.config)
	for _, code := range counted() {
		w.Number(s.refused[code])
	}
	w.Number(s.released)
	w.Number(s.buffer.Len())
	for _, it := range s.buffer.All() {
		w.Number(it.Number)
		w.Parts(s.kind.Asked(&it))
	}
	s.notes.Save(w, s.watermark(clock))
}

// loaded is the whole that was saved as these bytes; nil if none was. What is read is saved once more: bytes that come out otherwise were written by someone else.
func loaded(saved string) *Engine {
	r := pack.NewReader(saved)
	e := &Engine{clock: r.Number(0, api.MaxTime)}
	for range r.Number(0, api.MaxSeries) {
		s := loadSeries(r, e.clock)
		if s == nil || e.find(s.id) != nil {
			return nil
		}
		e.series = append(e.series, s)
	}
	if r.Wrong() || e.saved() != saved {
		return nil
	}
	return e
}

// loadSeries is nil if something is wrong.
func loadSeries(r *pack.Reader, clock int) *series {
	id := r.Number(0, api.MaxId)
	c, kind, good := kinds.LoadConfig(r)
	if !good {
		return nil
	}
	s := newSeries(id, c, kind)
	for _, code := range counted() {
		s.refused[code] = r.Number(0, maxCount)
	}
	s.released = r.Number(0, s.mostReleased(clock))
	waiting := r.Number(0, min(c.Cap, maxCount-s.released))
	known := &kinds.Known{Watermark: s.watermark(clock), Accepted: s.released + waiting, Released: s.released}
	for range waiting {
		it := item.Item{Number: known.Number(r)}
		r.Parts(kind.Asked(&it))
		r.Check(s.refusal(it, clock) == api.OK)
		s.buffer.Put(it)
	}
	s.accepted = known.Accepted
	s.notes.Load(r, known)
	if r.Wrong() {
		return nil
	}
	return s
}

// mostReleased: one TICK lets go no more than Cap items, and it moves the watermark on, to 0 at least.
func (s *series) mostReleased(clock int) int {
	ticks := max(0, min(clock, s.watermark(clock)+1))
	if ticks > maxCount/s.config.Cap {
		return maxCount
	}
	return s.config.Cap * ticks
}
