package hash

import (
	"math/big"
	"math/rand"
	"testing"

	"sketch/api"
)

func TestOfTheDocument(t *testing.T) {
	for _, c := range []struct {
		pair      [2]int
		key, want int
	}{
		{[2]int{2, 5}, 3, 11}, {[2]int{api.Prime - 1, 0}, 1, api.Prime - 1}, {[2]int{api.Prime - 1, 0}, 2, api.Prime - 2},
		{[2]int{1, 0}, 0, 0}, {[2]int{1, api.Prime - 1}, 0, api.Prime - 1}, {[2]int{1, api.Prime - 1}, 1, 0}, {[2]int{1, api.Prime - 1}, 2, 1}, {[2]int{1, 0}, api.MaxKey, api.MaxKey},
	} {
		if got := Of(c.pair, c.key); got != c.want {
			t.Errorf("the hash of %d by %v: %d, want %d", c.key, c.pair, got, c.want)
		}
	}
}

func exact(pair [2]int, key int) int {
	h := new(big.Int).Mul(big.NewInt(int64(pair[0])), big.NewInt(int64(key)))
	h.Add(h, big.NewInt(int64(pair[1])))
	return int(h.Mod(h, big.NewInt(api.Prime)).Int64())
}

func TestAsBigNumbers(t *testing.T) {
	r := rand.New(rand.NewSource(1))
	number := func(low, high int) int {
		return []int{low, high, min(low+r.Intn(9), high), max(high-r.Intn(9), low), low + r.Intn(high-low)}[r.Intn(5)]
	}
	for range 20000 {
		pair, key := [2]int{number(1, api.Prime-1), number(0, api.Prime-1)}, number(0, api.MaxKey)
		if got, want := Of(pair, key), exact(pair, key); got != want {
			t.Fatalf("the hash of %d by %v: %d, want %d", key, pair, got, want)
		}
	}
}

// 15 times the first seed is just below 2 to the 64: with the second one the low word runs over.
func TestCarry(t *testing.T) {
	pair := [2]int{1<<60 + 1<<33, api.Prime - 1}
	for key := range 100 {
		if got, want := Of(pair, key), exact(pair, key); got != want {
			t.Errorf("the hash of %d by %v: %d, want %d", key, pair, got, want)
		}
	}
}
