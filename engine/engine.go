// Package engine plays the steps of a script: it has the clock and the series.
package engine

import (
	"sketch/api"
	"sketch/item"
	"sketch/kinds"
	"sketch/limit"
)

// Engine is the whole; its zero value is the beginning of a script.
type Engine struct {
	clock  int
	series []*series // in the order in which they were created
}

// Step plays one step and answers it.
func (e *Engine) Step(op api.Op) api.Answer {
	switch op.Kind {
	case api.Create:
		return e.create(op)
	case api.Add:
		return e.add(op)
	case api.Tick:
		return e.tick(op)
	case api.Query:
		return e.query(op)
	case api.Stats:
		return e.stats(op)
	case api.Save:
		return api.Answer{Bytes: e.saved()}
	case api.Load:
		return e.load(op)
	}
	return refusal(api.ErrKind)
}

func (e *Engine) create(op api.Op) api.Answer {
	if !limit.Within(op.Id, 0, api.MaxId) || e.find(op.Id) != nil {
		return refusal(api.ErrId)
	}
	kind, good := kinds.Of(op.Config)
	if !good {
		return refusal(api.ErrConfig)
	}
	if len(e.series) >= api.MaxSeries {
		return refusal(api.ErrFull)
	}
	e.series = append(e.series, newSeries(op.Id, op.Config, kind))
	return api.Answer{}
}

func (e *Engine) add(op api.Op) api.Answer {
	s := e.find(op.Id)
	if s == nil {
		return refusal(api.ErrId)
	}
	it := item.Item{Time: op.A, Key: op.B, Draw: op.C}
	if code := s.refusal(it, e.clock); code != api.OK {
		s.countRefusal(code)
		return refusal(code)
	}
	return api.Answer{Numbers: []int{s.accept(it)}}
}

func (e *Engine) tick(op api.Op) api.Answer {
	if !limit.Time(op.A) {
		return refusal(api.ErrTime)
	}
	if !limit.Within(op.B, 0, api.MaxBudget) {
		return refusal(api.ErrBudget)
	}
	e.clock = max(e.clock, op.A)
	for _, s := range e.series {
		s.release(s.watermark(e.clock))
	}
	return api.Answer{Numbers: []int{e.sweep(op.B)}}
}

// sweep is how many dead buckets are left behind it; the series share one budget.
func (e *Engine) sweep(budget int) int {
	all := 0
	for _, s := range e.series {
		thrown, left := s.notes.Sweep(s.watermark(e.clock), budget)
		budget -= thrown
		all += left
	}
	return all
}

func (e *Engine) query(op api.Op) api.Answer {
	s := e.find(op.Id)
	if s == nil {
		return refusal(api.ErrId)
	}
	numbers, code := s.notes.Query(op.A, s.watermark(e.clock))
	if code != api.OK {
		return refusal(code)
	}
	return api.Answer{Numbers: numbers}
}

func (e *Engine) stats(op api.Op) api.Answer {
	s := e.find(op.Id)
	if s == nil {
		return refusal(api.ErrId)
	}
	return api.Answer{Numbers: s.stats()}
}

func (e *Engine) load(op api.Op) api.Answer {
	whole := loaded(op.Bytes)
	if whole == nil {
		return refusal(api.ErrBytes)
	}
	*e = *whole
	return api.Answer{}
}

// find is the series of an Id, nil if there is none.
func (e *Engine) find(id int) *series {
	for _, s := range e.series {
		if s.id == id {
			return s
		}
	}
	return nil
}

func refusal(code api.Errno) api.Answer { return api.Answer{Code: code} }
