package limit

import (
	"math"
	"testing"

	"sketch/api"
)

func TestEnds(t *testing.T) {
	for _, c := range []struct {
		name      string
		fits      func(int) bool
		low, high int
	}{
		{"Time", Time, 0, api.MaxTime}, {"Key", Key, 0, api.MaxKey}, {"Draw", Draw, 1, api.MaxDraw},
		{"Within", func(n int) bool { return Within(n, -3, 5) }, -3, 5}, {"Within one", func(n int) bool { return Within(n, 4, 4) }, 4, 4},
	} {
		for _, n := range []int{math.MinInt, c.low - 1, c.low, c.high, c.high + 1, math.MaxInt} {
			if c.fits(n) != (n >= c.low && n <= c.high) {
				t.Errorf("%s(%d) is %v", c.name, n, c.fits(n))
			}
		}
	}
}
