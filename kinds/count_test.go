package kinds

import (
	"math/bits"
	"math/rand"
	"slices"
	"testing"

	"sketch/api"
	"sketch/item"
)

// row is what the notes keep, from the newest bucket on, as the document writes it.
func (n *countNotes) row() []bucket {
	var all []bucket
	for place := range n.buckets.Len() {
		all = append(all, n.buckets.At(place))
	}
	slices.Reverse(all)
	return all
}

// Example 2, item by item.
func TestBucketsOfExample2(t *testing.T) {
	n := newCount(api.Config{K: 1, Window: 100})
	for i, want := range [][]bucket{
		{{1, 1}}, {{1, 2}, {1, 1}}, {{1, 3}, {2, 2}}, {{1, 4}, {1, 3}, {2, 2}}, {{1, 5}, {2, 4}, {2, 2}}, {{1, 6}, {1, 5}, {2, 4}, {2, 2}},
		{{1, 7}, {2, 6}, {4, 4}}, {{1, 8}, {1, 7}, {2, 6}, {4, 4}},
	} {
		n.release(item.Item{Time: i + 1}, 8)
		if got := n.row(); !slices.Equal(got, want) {
			t.Errorf("behind item %d: %v, want %v", i+1, got, want)
		}
	}
}

// The bucket that is made has the time of the newer one of the two, also if the older one is of a far lesser time.
func TestJoinedBucketsHaveTheNewerTime(t *testing.T) {
	n := newCount(api.Config{K: 2, Window: 1000})
	for _, time := range []int{3, 500, 500, 501} {
		n.release(item.Item{Time: time}, 600)
	}
	if want := []bucket{{1, 501}, {1, 500}, {2, 500}}; !slices.Equal(n.row(), want) {
		t.Errorf("%v, want %v", n.row(), want)
	}
}

// At a release the dead go ahead of the joining: the living ones alone are too many or not.
func TestReleaseLosesTheDeadFirst(t *testing.T) {
	n := newCount(api.Config{K: 1, Window: 5})
	n.release(item.Item{Time: 1}, 2)
	n.release(item.Item{Time: 2}, 2)
	n.release(item.Item{Time: 6}, 6)
	if want := []bucket{{1, 6}, {1, 2}}; !slices.Equal(n.row(), want) {
		t.Errorf("by the watermark 6: %v, want %v", n.row(), want)
	}
	n.release(item.Item{Time: 7}, 8)
	if want := []bucket{{1, 7}, {1, 6}}; !slices.Equal(n.row(), want) {
		t.Errorf("by the watermark 8: %v, want %v", n.row(), want)
	}
	n.release(item.Item{Time: 9}, 10000)
	if want := []bucket{{1, 9}}; !slices.Equal(n.row(), want) {
		t.Errorf("by the watermark 10000: %v, want %v", n.row(), want)
	}
}

func TestSweepTakesTheOldest(t *testing.T) {
	for _, c := range []struct {
		watermark, budget, thrown, left int
		want                            []bucket
	}{
		{7, 0, 0, 2, []bucket{{1, 4}, {1, 3}, {1, 2}, {1, 1}}},
		{7, 1, 1, 1, []bucket{{1, 4}, {1, 3}, {1, 2}}},
		{7, 2, 2, 0, []bucket{{1, 4}, {1, 3}}},
		{7, 100, 2, 0, []bucket{{1, 4}, {1, 3}}},
		{5, 100, 0, 0, []bucket{{1, 4}, {1, 3}, {1, 2}, {1, 1}}},
		{100, 3, 3, 1, []bucket{{1, 4}}},
	} {
		n := newCount(api.Config{K: 10, Window: 5})
		for time := 1; time <= 4; time++ {
			n.release(item.Item{Time: time}, 4)
		}
		thrown, left := n.sweep(c.watermark, c.budget)
		if thrown != c.thrown || left != c.left || !slices.Equal(n.row(), c.want) {
			t.Errorf("%+v: %d, %d, %v", c, thrown, left, n.row())
		}
	}
}

func TestQueryAndSweepOfNoBuckets(t *testing.T) {
	n := startCount(api.Config{K: 1, Window: 5})
	if got, code := n.Query(5, -100); code != api.OK || !slices.Equal(got, []int{0}) {
		t.Errorf("%v %d", got, code)
	}
	if thrown, left := n.Sweep(1<<62, 100); thrown != 0 || left != 0 {
		t.Errorf("%d %d", thrown, left)
	}
}

// Asking changes nothing: the dead stay until they are thrown away.
func TestQueryKeepsTheDead(t *testing.T) {
	n := newCount(api.Config{K: 1, Window: 5})
	n.release(item.Item{Time: 1}, 1)
	for range 2 {
		if got, code := n.query(5, 6); code != api.OK || !slices.Equal(got, []int{0}) {
			t.Errorf("%v %d", got, code)
		}
	}
	if _, left := n.sweep(6, 0); left != 1 {
		t.Errorf("%d dead buckets are left, want 1", left)
	}
}

// Of each size there are K + 1 buckets at most, and, but for the greatest one, K at least: so they are few.
func TestBucketsAreFew(t *testing.T) {
	r := rand.New(rand.NewSource(6))
	for k := 1; k <= api.MaxK; k++ {
		n := newCount(api.Config{K: k, Window: 1000})
		time := 0
		for range 3000 {
			time += r.Intn(3)
			n.release(item.Item{Time: time}, time)
			sizes := map[int]int{}
			sum := 0
			all := n.row()
			for i, b := range all {
				sizes[b.size]++
				sum += b.size
				if i > 0 && (b.size < all[i-1].size || b.time > all[i-1].time) {
					t.Fatalf("K %d: out of order: %v", k, all)
				}
			}
			greatest := all[len(all)-1].size
			for size := 1; size <= greatest; size *= 2 {
				if sizes[size] > k+1 || size < greatest && sizes[size] < k {
					t.Fatalf("K %d: %d of size %d: %v", k, sizes[size], size, all)
				}
			}
			if most := (k + 1) * bits.Len(uint(sum)); len(all) > most {
				t.Fatalf("K %d: %d buckets of %d items", k, len(all), sum)
			}
		}
	}
}
