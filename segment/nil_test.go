package segment_test

import (
	"math"
	"testing"

	"gantry/api"
	"gantry/segment"
)

// TestNil: a nil segment, and the zero one, of which no more is said.
func TestNil(t *testing.T) {
	for _, s := range []*segment.Segment{nil, {}} {
		sheet{0, 100, nil}.expect(t, "nil", s)
		for _, n := range []int64{math.MinInt64, -1, 0, 1, math.MaxInt64} {
			if at, looks := s.Place(n); at != 0 || looks != 0 {
				t.Errorf("P13.9: Place(%d): %d, %d", n, at, looks)
			}
			if at, looks := s.PlaceTime(n); at != 0 || looks != 0 {
				t.Errorf("P13.9: PlaceTime(%d): %d, %d", n, at, looks)
			}
		}
		if got, e := s.Read(0, 0); got != "" || e != api.OK {
			t.Errorf("P13.9: Read(0, 0): %q, %d", got, e)
		}
		for _, c := range [][2]int{{0, 1}, {1, 0}, {-1, 0}, {0, -1}, {1, -1}, {-1, 1}, {math.MaxInt, math.MaxInt}, {math.MinInt, math.MinInt}, {math.MinInt, math.MaxInt}} {
			if got, e := s.Read(c[0], c[1]); got != "" || e != api.ErrRange {
				t.Errorf("P13.9: Read(%d, %d): %q, %d", c[0], c[1], got, e)
			}
		}
		for _, at := range []int{math.MinInt, -51, -1, 0, 1, math.MaxInt} {
			if h, e := s.Head(at); h != (api.Head{}) || e != api.ErrRange {
				t.Errorf("P13.9: Head(%d): %+v, %d", at, h, e)
			}
		}
		for _, f := range []string{"", "x", single(t, 0, 0), single(t, 0, 0) + "x", single(t, 5, 0)} {
			if e := s.Append(f); e != api.ErrNone {
				t.Errorf("P13.9: Append of %d bytes: %d", len(f), e)
			}
		}
		if e := s.Sync(); e != api.ErrNone {
			t.Errorf("P13.9: Sync: %d", e)
		}
		if e := s.Remove(); e != api.ErrNone {
			t.Errorf("P13.9: Remove: %d", e)
		}
		sheet{0, 100, nil}.expect(t, "nil behind all calls", s)
	}
}
