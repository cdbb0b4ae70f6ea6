package kinds

import (
	"math"
	"slices"
	"testing"

	"sketch/api"
	"sketch/item"
)

func TestEveryKindHasAllFunctions(t *testing.T) {
	for number := api.Count; number <= api.Drawn; number++ {
		k, known := find(number)
		if !known || k.Fits == nil || k.Named == nil || k.Pairs == nil || k.Refuse == nil || k.Asked == nil || k.Start == nil {
			t.Fatalf("kind %d: %v, %+v", number, known, k)
		}
		if n := k.Start(api.Config{}); n.Release == nil || n.Query == nil || n.Sweep == nil || n.Save == nil || n.Load == nil {
			t.Errorf("kind %d: notes %+v", number, n)
		}
	}
}

func TestNoOtherKinds(t *testing.T) {
	for _, number := range []int{math.MinInt, -1, 0, 6, math.MaxInt} {
		if _, known := find(number); known {
			t.Errorf("there is a kind %d", number)
		}
		if _, good := Of(api.Config{Kind: number, Cap: 1}); good {
			t.Errorf("there is a configuration of kind %d", number)
		}
	}
}

func TestRefusals(t *testing.T) {
	c := api.Config{Degree: 1, Mark: 5}
	fine := item.Item{Time: 5, Key: api.MaxKey, Draw: api.MaxDraw}
	early, keyless, drawless, nothing := fine, fine, fine, item.Item{Key: -1}
	early.Time, keyless.Key, drawless.Draw = 4, api.MaxKey+1, 0
	items := []item.Item{fine, early, keyless, drawless, nothing}
	for number, want := range map[int][]api.Errno{
		api.Count:    {api.OK, api.OK, api.OK, api.OK, api.OK},
		api.Distinct: {api.OK, api.OK, api.ErrKey, api.OK, api.ErrKey},
		api.Often:    {api.OK, api.OK, api.ErrKey, api.OK, api.ErrKey},
		api.Decay:    {api.OK, api.ErrHorizon, api.OK, api.OK, api.ErrHorizon},
		api.Drawn:    {api.OK, api.ErrHorizon, api.ErrKey, api.ErrDraw, api.ErrHorizon},
	} {
		k, _ := find(number)
		for i, it := range items {
			if got := k.Refuse(c, it); got != want[i] {
				t.Errorf("kind %d, %+v: %d, want %d", number, it, got, want[i])
			}
		}
	}
}

// Two series of one kind share no notes, and what a query gives out is not what the notes keep.
func TestDecayNotesStandAlone(t *testing.T) {
	a, b := startDecay(api.Config{Half: 1}), startDecay(api.Config{Half: 1})
	for range 3 {
		a.Release(item.Item{Time: 60}, 60)
	}
	b.Release(item.Item{Time: 2}, 2)
	got, code := a.Query(0, 61)
	if code != api.OK || !slices.Equal(got, []int{1, 1 << 60, 1 << 61}) {
		t.Errorf("a: %v %d", got, code)
	}
	clear(got)
	if again, _ := a.Query(0, 61); !slices.Equal(again, []int{1, 1 << 60, 1 << 61}) {
		t.Errorf("a, once more: %v", again)
	}
	if got, _ := b.Query(0, -1); !slices.Equal(got, []int{0, 4, 0}) {
		t.Errorf("b: %v", got)
	}
}
