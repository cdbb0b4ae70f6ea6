package weight

import (
	"math"
	"math/big"
	"testing"

	"sketch/api"
)

func TestSmallWeights(t *testing.T) {
	for _, c := range []struct {
		config api.Config
		time   int
		want   int
	}{
		{api.Config{Degree: 2}, 4, 25}, {api.Config{Degree: 2}, 0, 1}, {api.Config{Degree: 3, Mark: 5}, 6, 8}, {api.Config{Degree: 0, Mark: 5}, 500, 1}, {api.Config{Degree: 1, Mark: 5}, 5, 1},
		{api.Config{Half: 2}, 1, 1}, {api.Config{Half: 2}, 2, 2}, {api.Config{Half: 2, Degree: 3}, 5, 4}, {api.Config{Half: 100, Mark: 7}, 106, 1}, {api.Config{Half: 100, Mark: 7}, 107, 2},
	} {
		if w, some := Of(c.config, c.time); w != c.want || !some {
			t.Errorf("%+v at %d: %d %v, want %d", c.config, c.time, w, some, c.want)
		}
	}
}

func TestNoWeightBelowMark(t *testing.T) {
	for _, c := range []api.Config{{}, {Degree: 3}, {Half: 1}, {Mark: 10}, {Half: 9, Mark: 10}, {Mark: api.MaxTime}} {
		for _, time := range []int{c.Mark - 1, -1, -100, math.MinInt} {
			if w, some := Of(c, time); w != 0 || some {
				t.Errorf("%+v at %d: %d %v", c, time, w, some)
			}
		}
	}
}

func exact(c api.Config, age int) *big.Int {
	if c.Half > 0 {
		return new(big.Int).Lsh(big.NewInt(1), uint(min(age/c.Half, 1000)))
	}
	base := new(big.Int).Add(big.NewInt(int64(age)), big.NewInt(1))
	return base.Exp(base, big.NewInt(int64(c.Degree)), nil)
}

// All around the ages at which the weight, or what an int holds, comes to its end.
func TestAsExactNumbers(t *testing.T) {
	most := big.NewInt(api.MaxWeight)
	for degree := 0; degree <= api.MaxDegree; degree++ {
		for _, half := range []int{0, 1, 2, 3, 99, 100} {
			for _, around := range []int{2, 60, 62, 123, 186, 6138, 6200, 1321122, 1 << 21, 1518500249, 1 << 31, 1 << 32, 3037000500, 1 << 61, api.MaxTime - 2} {
				for age := max(0, around-2); age <= around+2; age++ {
					c := api.Config{Degree: degree, Half: half, Mark: api.MaxTime - age}
					want := exact(c, age)
					w, some := Of(c, api.MaxTime)
					if some != (want.Cmp(most) <= 0) || some && want.Cmp(big.NewInt(int64(w))) != 0 || !some && w != 0 {
						t.Errorf("%+v at the age %d: %d %v, want %v", c, age, w, some, want)
					}
				}
			}
		}
	}
}

func TestOrZero(t *testing.T) {
	for _, c := range []struct {
		config     api.Config
		time, want int
	}{
		{api.Config{Degree: 2}, 4, 25}, {api.Config{Degree: 1, Mark: 5}, 5, 1}, {api.Config{Degree: 1, Mark: 5}, 4, 0}, {api.Config{}, -1, 0}, {api.Config{Half: 1}, 61, 1 << 61}, {api.Config{Half: 1}, 62, 0},
	} {
		if got := OrZero(c.config, c.time); got != c.want {
			t.Errorf("%+v at %d: %d, want %d", c.config, c.time, got, c.want)
		}
	}
}
