package plog_test

import (
	"slices"
	"testing"

	"gantry/api"
	"gantry/disk"
	"gantry/names"
	"gantry/plog"
)

// TestExamples is the chapter's examples, number by number.
func TestExamples(t *testing.T) {
	f := single(t, 0)
	if len(f) != 60 {
		t.Fatalf("the frame has %d bytes", len(f))
	}
	l := opened(t, disk.New(10000), config())
	if !slices.Equal(l.Bases(), []int64{5}) || l.Start() != 5 || l.End() != 5 {
		t.Errorf("P15.1: %d, from %d to %d", l.Bases(), l.Start(), l.End())
	}
	for want := int64(5); want < 8; want++ {
		if base, double, e := l.Append(f); base != want || double || e != api.OK {
			t.Errorf("P15.3: Append: %d, %t, %d", base, double, e)
		}
	}
	if !slices.Equal(l.Bases(), []int64{5, 7}) {
		t.Errorf("P15.3: %d", l.Bases())
	}
	for o, want := range map[int64]int{4: -1, 6: 0, 7: 1, 8: -1} {
		if n, ok := l.Holder(o); n != max(want, 0) || ok != (want >= 0) {
			t.Errorf("P15.2: Holder(%d): %d, %t", o, n, ok)
		}
	}
	for _, c := range []struct {
		offset, start int64
		segments      int
		e             api.Errno
	}{{6, 5, 2, api.OK}, {7, 7, 1, api.OK}, {9, 0, 1, api.ErrOffset}, {8, 7, 1, api.OK}} {
		if start, e := l.Trim(c.offset); start != c.start || e != c.e || l.Segments() != c.segments {
			t.Errorf("P15.5: Trim(%d): %d, %d, %d segments", c.offset, start, e, l.Segments())
		}
	}
	if base, double, e := l.Append(rebased(t, f, 7)); base != 0 || double || e != api.ErrBatch {
		t.Errorf("P15.3: a frame whose base offset is 7: %d, %t, %d", base, double, e)
	}
}

func TestExampleOfAGreatFrame(t *testing.T) {
	p := newPair(t, config())
	p.append(t, "a frame of 200 bytes", sized(t, 200))
	if p.l.Segments() != 1 || p.l.Segment(0).Size() != 200 {
		t.Errorf("P15.3: %d segments", p.l.Segments())
	}
	p.expect(t, "a frame of 200 bytes")
}

func TestExampleOfBases(t *testing.T) {
	f := single(t, 0)
	d := disk.New(10000)
	put(d, nameOf(0, names.Log), f+rebased(t, f, 1))
	put(d, nameOf(3, names.Log), "")
	if l, e := plog.Open(d, config()); l != nil || e != api.ErrCorrupt {
		t.Errorf("P15.1: Open: %d", e)
	}
}
