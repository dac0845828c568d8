package scan_test

import (
	"math"
	"testing"

	"gantry/api"
	"gantry/scan"
)

func expectHolds(t *testing.T, list []scan.Found, offset int64, want int) {
	t.Helper()
	n, ok := scan.Holds(list, offset)
	if ok != (want >= 0) || n != max(want, 0) {
		t.Errorf("P12.4: %d frames: Holds of %d: %d, %t, want %d", len(list), offset, n, ok, want)
	}
}

func TestHoldsExamples(t *testing.T) {
	f, g := pair(t)
	list, _, _ := scan.All(f+g, 5, 1000, 1000)
	for _, c := range []struct {
		offset int64
		want   int
	}{{4, -1}, {5, 0}, {6, 0}, {7, 1}, {8, -1}, {0, -1}, {-1, -1}, {math.MinInt64, -1}, {math.MaxInt64, -1}, {5 | 1<<32, -1}} {
		expectHolds(t, list, c.offset, c.want)
	}
}

// chain answers a list of frames with these counts of records, from base on.
func chain(base int64, counts ...int) []scan.Found {
	var out []scan.Found
	for i, n := range counts {
		out = append(out, scan.Found{Head: api.Head{Base: base, Length: 58, Count: n}, At: 58 * i})
		base += int64(n)
	}
	return out
}

func TestHoldsNone(t *testing.T) {
	for _, offset := range []int64{math.MinInt64, -1, 0, 1, api.MostOffset, math.MaxInt64} {
		expectHolds(t, nil, offset, -1)
		expectHolds(t, []scan.Found{}, offset, -1)
	}
}

// TestHoldsEveryOffset: lists of all lengths to 70, with counts that change, and all offsets from ahead of them to behind.
func TestHoldsEveryOffset(t *testing.T) {
	dice := newDice(4)
	for length := range 70 {
		var counts, owner []int
		for i := range length {
			counts = append(counts, 1+dice.IntN(1+dice.IntN(9)))
			for range counts[i] {
				owner = append(owner, i)
			}
		}
		for _, base := range []int64{0, 3, 1 << 40, api.MostOffset - int64(len(owner))} {
			list := chain(base, counts...)
			for i := -3; i < len(owner)+3; i++ {
				want := -1
				if i >= 0 && i < len(owner) {
					want = owner[i]
				}
				expectHolds(t, list, base+int64(i), want)
			}
		}
	}
}

func TestHoldsGreatCounts(t *testing.T) {
	list := chain(api.MostOffset-2*api.MostRecords-1, api.MostRecords, 1, api.MostRecords)
	for offset, want := range map[int64]int{
		api.MostOffset - 2*api.MostRecords - 2: -1,
		api.MostOffset - 2*api.MostRecords - 1: 0,
		api.MostOffset - api.MostRecords - 2:   0,
		api.MostOffset - api.MostRecords - 1:   1,
		api.MostOffset - api.MostRecords:       2,
		api.MostOffset - 1:                     2,
		api.MostOffset:                         -1,
	} {
		expectHolds(t, list, offset, want)
	}
}

// TestHoldsAnyList: lists of which nothing is promised are answered something.
func TestHoldsAnyList(t *testing.T) {
	edges := []int64{math.MinInt64, -1, 0, 1, api.MostOffset, math.MaxInt64}
	for _, a := range edges {
		for _, b := range edges {
			list := []scan.Found{{Head: api.Head{Base: a, Count: int(b)}}, {Head: api.Head{Base: b, Count: int(a)}}, {}}
			for _, offset := range edges {
				if n, ok := scan.Holds(list, offset); n < 0 || n >= len(list) || !ok && n != 0 {
					t.Errorf("P12.4: %d, %t", n, ok)
				}
			}
		}
	}
}
