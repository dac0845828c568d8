package seek_test

import (
	"math"
	"testing"

	"gantry/api"
	"gantry/plog"
	"gantry/seek"
)

// TestNil: a nil log has Start and End 0 and no frames, and so has the zero one.
func TestNil(t *testing.T) {
	for _, l := range []*plog.Log{nil, {}} {
		for _, o := range []int64{math.MinInt64, -1, 0, 1, math.MaxInt64} {
			expectNone(t, l, o)
		}
		for _, at := range []int64{math.MinInt64, -1, 0, 1, math.MaxInt64} {
			if o, e := seek.Time(l, at); o != 0 || e != api.ErrNone {
				t.Errorf("P16.7: Time(%d): %d, %d", at, o, e)
			}
			if o, m, e := seek.Timed(l, at); o != 0 || m != (api.Meter{}) || e != api.ErrNone {
				t.Errorf("P16.7: Timed(%d): %d, %+v, %d", at, o, m, e)
			}
		}
		walk := seek.Walk(l)
		if walk == nil {
			t.Fatal("R1: Walk answers nil")
		}
		for h := range walk {
			t.Errorf("P16.7: Walk: %+v", h)
		}
	}
}

func expectNone(t *testing.T, l *plog.Log, o int64) {
	t.Helper()
	want := api.ErrOffset
	if o == 0 {
		want = api.OK
	}
	if h, m, e := seek.Find(l, o); h != (seek.Hit{}) || m != (api.Meter{}) || e != api.ErrOffset {
		t.Errorf("P16.7: Find(%d): %+v, %+v, %d", o, h, m, e)
	}
	for _, n := range []int{math.MinInt, -1, 0, 1, math.MaxInt} {
		if s, e := seek.Fetch(l, o, n); s != "" || e != want {
			t.Errorf("P16.7: Fetch(%d, %d): %d bytes, %d", o, n, len(s), e)
		}
		if s, m, e := seek.Fetched(l, o, n); s != "" || m != (api.Meter{}) || e != want {
			t.Errorf("P16.7: Fetched(%d, %d): %d bytes, %+v, %d", o, n, len(s), m, e)
		}
		why := want
		if n < 0 && o == 0 {
			why = api.ErrRange
		}
		if rows, e := seek.Rows(l, o, n); len(rows) != 0 || e != why {
			t.Errorf("P16.7: Rows(%d, %d): %+v, %d", o, n, rows, e)
		}
	}
}
