package sketch_test

import (
	"fmt"
	"math"
	"testing"

	"sketch/api"
)

func distinct(bits, window, a, b int) api.Config {
	return api.Config{Kind: api.Distinct, Skew: 10, Cap: 8, Bits: bits, Window: window, Seeds: [3][2]int{{a, b}}}
}

// keyed is a new series 7 with items of the time 1 and these keys, released.
func keyed(c api.Config, keys ...int) []step {
	steps := []step{good(create(7, c))}
	for i, key := range keys {
		steps = append(steps, good(add(7, 1, key, 1), i+1))
	}
	return append(steps, good(tick(1+c.Lag, 0), 0))
}

// told is what QUERY of DISTINCT answers for these registers: the quotient worked out as the document says it.
func told(registers ...int) []int {
	m, sum := len(registers), 0
	for _, n := range registers {
		sum += 1 << (40 - n)
	}
	return append(registers, 7*m*m*(1<<40)/(10*sum))
}

func TestP5Example6(t *testing.T) {
	check(t, "P5: example 6", append(keyed(distinct(1, 10, 1, 0), 5), good(ask(7, 10), 0, 2, 2))...)
	check(t, "P5: example 6, the key 1", append(keyed(distinct(1, 10, 1, 0), 1), good(ask(7, 10), told(0, 40)...))...)
	check(t, "P5: example 6, both", append(keyed(distinct(1, 10, 1, 0), 1, 5), good(ask(7, 10), told(0, 40)...))...)
}

// Example 5: hashes 11, Prime - 1 and Prime - 2, by which register and rank they show.
func TestP5Example5(t *testing.T) {
	check(t, "P5: example 5", append(keyed(distinct(2, 10, 2, 5), 3), good(ask(7, 10), told(0, 0, 0, 2)...))...)                                    // 11 is 4 times 2 and 3
	check(t, "P5: example 5, the key 1", append(keyed(distinct(2, 10, api.Prime-1, 0), 1), good(ask(7, 10), told(0, 0, ranked(1<<59-1), 0)...))...) // 2 to the 61 less 2
	check(t, "P5: example 5, the key 2", append(keyed(distinct(2, 10, api.Prime-1, 0), 2), good(ask(7, 10), told(0, ranked(1<<59-1), 0, 0)...))...)
}

func TestP5DistinctOfNone(t *testing.T) {
	for bits, last := range map[int]int{1: 1, 2: 2, 3: 5, 4: 11} {
		want := append(make([]int, 1<<bits), last)
		check(t, fmt.Sprint("P5: DISTINCT of none, Bits ", bits), good(create(7, distinct(bits, 10, 1, 0))), good(ask(7, 1), want...), good(ask(7, 10), want...), good(add(7, 1, 3, 0), 1), good(ask(7, 10), want...))
	}
}

// The hash of the key 0 is the second seed: each register, each rank, and halvings beyond MaxRho.
func TestP5RegistersAndRanks(t *testing.T) {
	for bits := 1; bits <= api.MaxBits; bits++ {
		m := 1 << bits
		for register := range m {
			for halvings := 0; halvings+bits < 61; halvings++ {
				for _, odd := range []int{1, 3} {
					h := odd<<halvings*m + register
					if h >= api.Prime {
						continue
					}
					want := make([]int, m)
					want[register] = min(halvings+1, 40)
					check(t, fmt.Sprintf("P5: Bits %d, hash %d", bits, h), append(keyed(distinct(bits, 10, 1, h), 0), good(ask(7, 10), told(want...)...))...)
				}
			}
			want := make([]int, m)
			want[register] = 40
			check(t, fmt.Sprintf("P5: Bits %d, hash %d", bits, register), append(keyed(distinct(bits, 10, 1, register), 0), good(ask(7, 10), told(want...)...))...)
		}
	}
}

func TestP5HashesOfTheGreatest(t *testing.T) {
	for _, seeds := range [][2]int{{1, 0}, {1, api.Prime - 1}, {api.Prime - 1, 0}, {api.Prime - 1, api.Prime - 1}, {1 << 60, 1 << 60}, {1<<60 - 1, 7}, {123456789123456789, 987654321987654321}} {
		for _, key := range []int{0, 1, 2, 3, 1 << 16, api.MaxKey - 2, api.MaxKey - 1, api.MaxKey} {
			h := bigHash(seeds, key)
			want := make([]int, 16)
			want[h%16] = ranked(h / 16)
			check(t, fmt.Sprintf("P5: the hash of %d by %v", key, seeds), append(keyed(distinct(4, 10, seeds[0], seeds[1]), key), good(ask(7, 10), told(want...)...))...)
		}
	}
}

// The other pairs of Seeds are not asked for.
func TestP5DistinctTakesTheFirstSeeds(t *testing.T) {
	c := distinct(1, 10, 1, 0)
	c.Seeds[1], c.Seeds[2] = [2]int{-1, math.MinInt}, [2]int{math.MaxInt, 5}
	check(t, "P5: the first pair", append(keyed(c, 5), good(ask(7, 10), 0, 2, 2))...)
}

func TestP5DistinctCountsAKeyOnce(t *testing.T) {
	check(t, "P5: one key", append(keyed(distinct(1, 10, 1, 0), 5, 5, 5, 5), good(ask(7, 10), 0, 2, 2))...)
	check(t, "P5: many keys", append(keyed(distinct(2, 10, 1, 0), 4, 8, 16, 5, 9, 6, 7), good(ask(7, 10), told(3, 2, 1, 1)...))...)
}

func TestP5DistinctWindowsThatMayNotBe(t *testing.T) {
	for _, window := range []int{1, 2, 10, 999, 1000} {
		steps := append([]step{bad(ask(7, 0), api.ErrId)}, keyed(distinct(1, window, 1, 0), 5)...)
		for _, w := range append(edges(), window-1, window, window+1) {
			if w < 1 || w > window {
				steps = append(steps, bad(ask(7, w), api.ErrRange), bad(ask(8, w), api.ErrId))
				continue
			}
			steps = append(steps, good(ask(7, w), 0, 2, 2))
		}
		check(t, fmt.Sprint("P5: windows of a series with Window ", window), append(steps, good(stats(7), 1, 1, 0, 0, 0, 0, 0, 0, 0))...)
	}
}

// A time of the watermark less w is no more within w, one more is.
func TestP5DistinctTheEdgeOfAWindow(t *testing.T) {
	for _, w := range []int{1, 2, 7, 1000} {
		for _, lag := range []int{0, 1, 100} {
			c := distinct(1, 1000, 1, 0)
			c.Lag = lag
			check(t, fmt.Sprintf("P5: the edge of the window %d, Lag %d", w, lag), append(keyed(c, 5), good(tick(w+lag, 0), 0), good(ask(7, w), 0, 2, 2), good(tick(w+lag+1, 0), 0), good(ask(7, w), 0, 0, 1))...)
		}
	}
}

// Ranks that fall with time: each of them is the greatest of some windows. (The keys 2, 4, 8, 16 have the ranks 1 to 4 in register 0.)
func TestP5RanksThatComeToTheFront(t *testing.T) {
	steps := []step{good(create(7, distinct(1, 10, 1, 0)))}
	for i, key := range []int{16, 8, 4, 2} {
		steps = append(steps, good(add(7, i+1, key, 0), i+1))
	}
	steps = append(steps, good(tick(4, 0), 0))
	for w, rank := range []int{1, 2, 3, 4, 4} {
		steps = append(steps, good(ask(7, w+1), told(rank, 0)...))
	}
	for i, rank := range []int{4, 3, 2, 1, 0} {
		steps = append(steps, good(tick(10+i, 0), 0), good(ask(7, 10), told(rank, 0)...))
	}
	check(t, "P5: ranks that fall", steps...)
}

// Of one time, in any order, the greatest rank counts; a newer one that is as great takes the older one's place for longer.
func TestP5RanksOfOneTime(t *testing.T) {
	for _, keys := range [][]int{{2, 4, 8}, {8, 4, 2}, {4, 8, 2}, {8, 2, 8}, {2, 8, 8}} {
		check(t, fmt.Sprint("P5: ranks of one time: ", keys), append(keyed(distinct(1, 5, 1, 0), keys...), good(ask(7, 1), told(3, 0)...), good(tick(5, 0), 0), good(ask(7, 5), told(3, 0)...), good(tick(6, 0), 0), good(ask(7, 5), told(0, 0)...))...)
	}
	check(t, "P5: the same rank once more", good(create(7, distinct(1, 5, 1, 0))), good(add(7, 1, 8, 0), 1), good(add(7, 3, 8, 0), 2), good(add(7, 2, 4, 0), 3), good(tick(3, 0), 0), good(ask(7, 1), told(3, 0)...), good(tick(7, 0), 0), good(ask(7, 4), told(0, 0)...), good(ask(7, 5), told(3, 0)...))
}

// Items that wait are within no window; those of the other registers leave a register as it is.
func TestP5DistinctReleasesByTime(t *testing.T) {
	c := distinct(1, 5, 1, 0)
	c.Lag = 3
	check(t, "P5: DISTINCT: Lag", good(create(7, c)), good(ask(7, 5), told(0, 0)...), good(add(7, 4, 8, 0), 1), good(add(7, 0, 5, 0), 2), good(tick(2, 0), 0), good(ask(7, 5), told(0, 0)...), good(tick(3, 0), 0), good(ask(7, 5), told(0, 2)...),
		good(tick(7, 0), 0), good(ask(7, 1), told(3, 0)...), good(ask(7, 5), told(3, 2)...), good(tick(8, 0), 0), good(ask(7, 5), told(3, 0)...), good(tick(12, 0), 0), good(ask(7, 5), told(0, 0)...))
}

func TestP5DistinctAtTheEndsOfTime(t *testing.T) {
	const end = api.MaxTime
	c := distinct(1, 1000, 1, 0)
	c.Lag = 100
	check(t, "P5: DISTINCT: a watermark below 0", good(create(7, c)), good(ask(7, 1000), told(0, 0)...), good(tick(0, 0), 0), good(ask(7, 1), told(0, 0)...), good(add(7, 0, 5, 0), 1), good(tick(100, 0), 0), good(ask(7, 1), told(0, 2)...),
		good(tick(end, 0), 0), good(ask(7, 1000), told(0, 0)...), good(add(7, end-99, 8, 0), 2), good(add(7, end, 4, 0), 3), good(tick(end, 0), 0), good(ask(7, 1000), told(0, 0)...))
	check(t, "P5: DISTINCT: the greatest times", good(create(7, distinct(1, 1000, 1, 0))), good(tick(end-2, 0), 0), good(add(7, end-1, 8, 0), 1), good(add(7, end, 4, 0), 2), good(tick(end, 0), 0), good(ask(7, 1), told(2, 0)...), good(ask(7, 2), told(3, 0)...), good(ask(7, 1000), told(3, 0)...))
}

// An item that has left the Window when it is released is within no window.
func TestP5DistinctItemsThatAreReleasedTooLate(t *testing.T) {
	check(t, "P5: DISTINCT: released too late", good(create(7, distinct(1, 3, 1, 0))), good(add(7, 1, 16, 0), 1), good(add(7, 3, 2, 0), 2), good(add(7, 2, 5, 0), 3), good(tick(5, 0), 0), good(ask(7, 3), told(1, 0)...), good(ask(7, 2), told(0, 0)...), good(add(7, 6, 1, 0), 4), good(tick(100, 0), 0), good(ask(7, 3), told(0, 0)...))
}

func TestP5DistinctAsksNothingOfBAndC(t *testing.T) {
	steps := keyed(distinct(1, 10, 1, 0), 5)
	for _, n := range edges() {
		steps = append(steps, good(api.Op{Kind: api.Query, Id: 7, A: 2, B: n, C: n, Bytes: "anything", Config: api.Config{Kind: n, Bits: n}}, 0, 2, 2))
	}
	check(t, "P5: DISTINCT: B and C", steps...)
}

func TestP5EachSeriesHasItsRegisters(t *testing.T) {
	check(t, "P5: two series of DISTINCT", good(create(1, distinct(1, 10, 1, 0))), good(create(2, distinct(2, 20, 1, 1))), good(add(1, 1, 5, 0), 1), good(add(2, 2, 5, 0), 1), good(tick(1, 0), 0), good(ask(1, 10), told(0, 2)...), good(ask(2, 10), told(0, 0, 0, 0)...), good(tick(2, 0), 0), good(ask(1, 10), told(0, 2)...), good(ask(2, 20), told(0, 0, 1, 0)...))
}
