package engine

import (
	"sketch/api"
	"sketch/item"
	"sketch/kinds"
	"sketch/limit"
	"sketch/queue"
)

// maxCount is far above what any script counts up to, and far enough below what an int holds. Only bytes that were forged tell of so many: there the counting ends, so that what is saved of it can be loaded again.
const maxCount = 1 << 62

type series struct {
	id       int
	config   api.Config
	kind     kinds.Kind
	notes    kinds.Notes
	buffer   *queue.Queue[item.Item]
	accepted int
	released int
	refused  [api.ErrCap + 1]int // by error
}

func newSeries(id int, c api.Config, kind kinds.Kind) *series {
	return &series{id: id, config: c, kind: kind, notes: kind.Start(c), buffer: queue.New(item.Ahead)}
}

func (s *series) watermark(clock int) int { return clock - s.config.Lag }

// refusal is the first error of an item that would be added now; OK if there is none.
func (s *series) refusal(it item.Item, clock int) api.Errno {
	switch {
	case !limit.Time(it.Time):
		return api.ErrTime
	case it.Time <= s.watermark(clock):
		return api.ErrLate
	case it.Time > clock+s.config.Skew:
		return api.ErrFuture
	}
	if code := s.kind.Refuse(s.config, it); code != api.OK {
		return code
	}
	if s.buffer.Len() >= s.config.Cap || s.accepted >= maxCount {
		return api.ErrCap
	}
	return api.OK
}

func (s *series) countRefusal(code api.Errno) {
	s.refused[code] = min(s.refused[code]+1, maxCount)
}

// accept is the number that the item gets.
func (s *series) accept(it item.Item) int {
	s.accepted++
	it.Number = s.accepted
	s.buffer.Put(it)
	return it.Number
}

func (s *series) release(watermark int) {
	for {
		it, some := s.buffer.First()
		if !some || it.Time > watermark {
			return
		}
		s.buffer.Take()
		s.released++
		s.notes.Release(it, watermark)
	}
}

func (s *series) stats() []int {
	numbers := []int{s.accepted, s.released}
	for _, code := range counted() {
		numbers = append(numbers, s.refused[code])
	}
	return numbers
}

// counted is the errors whose refusals are counted, in the order in which they are told.
func counted() [7]api.Errno {
	return [...]api.Errno{api.ErrTime, api.ErrLate, api.ErrFuture, api.ErrHorizon, api.ErrKey, api.ErrDraw, api.ErrCap}
}
