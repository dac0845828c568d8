package seek_test

import (
	"testing"

	"gantry/api"
	"gantry/disk"
	"gantry/plog"
	"gantry/seek"
)

// example is the chapter's log, but with frames of 70 bytes: two records take 65 at least.
func example(t *testing.T) (*plog.Log, *disk.Disk) {
	t.Helper()
	return logOf(t, config(), timed(t, 10, 7), timed(t, 3), timed(t, 20), timed(t, 10))
}

func TestExampleOfFind(t *testing.T) {
	l, _ := example(t)
	for offset, want := range map[int64][3]int{5: {5, 0, 0}, 6: {5, 0, 0}, 7: {7, 0, 70}, 8: {8, 1, 0}, 9: {9, 1, 70}} {
		h, _, e := seek.Find(l, offset)
		if h.Base != int64(want[0]) || h.Segment != want[1] || h.At != want[2] || h.Length != 70 || e != api.OK {
			t.Errorf("P16.1: Find(%d): %+v, %d", offset, h, e)
		}
	}
	for _, offset := range []int64{10, 4} {
		if h, m, e := seek.Find(l, offset); h != (seek.Hit{}) || m != (api.Meter{}) || e != api.ErrOffset {
			t.Errorf("P16.1: Find(%d): %+v, %+v, %d", offset, h, m, e)
		}
	}
}

func TestExampleOfFetch(t *testing.T) {
	l, d := example(t)
	all := content(d, "00000000000000000005.log") + content(d, "00000000000000000008.log")
	for _, c := range []struct {
		offset         int64
		most, from, to int
		e              api.Errno
	}{
		{6, 0, 0, 70, api.OK},
		{6, 139, 0, 70, api.OK},
		{6, 140, 0, 140, api.OK},
		{7, 210, 70, 280, api.OK},
		{10, 99, 0, 0, api.OK},
		{11, 99, 0, 0, api.ErrOffset},
		{4, 99, 0, 0, api.ErrOffset},
	} {
		if s, e := seek.Fetch(l, c.offset, c.most); s != all[c.from:c.to] || e != c.e {
			t.Errorf("P16.2: Fetch(%d, %d): %d bytes, %d", c.offset, c.most, len(s), e)
		}
	}
}

func TestExampleOfTime(t *testing.T) {
	l, _ := example(t)
	for at, want := range map[int64]int64{7: 5, 11: 8, 10: 5, -5: 5} {
		if o, e := seek.Time(l, at); o != want || e != api.OK {
			t.Errorf("P16.3: Time(%d): %d, %d", at, o, e)
		}
	}
	if o, e := seek.Time(l, 21); o != 0 || e != api.ErrNone {
		t.Errorf("P16.3: Time(21): %d, %d", o, e)
	}
}

func TestExampleOfRows(t *testing.T) {
	l, _ := example(t)
	rows, e := seek.Rows(l, 6, 2)
	if len(rows) != 2 || rows[0].Offset != 6 || rows[0].Record.Time != 7 || rows[1].Offset != 7 || rows[1].Record.Time != 3 || e != api.OK {
		t.Errorf("P16.4: Rows(6, 2): %+v, %d", rows, e)
	}
	if rows, e := seek.Rows(l, 10, 5); len(rows) != 0 || e != api.OK {
		t.Errorf("P16.4: Rows(10, 5): %+v, %d", rows, e)
	}
}

// TestExampleWhole asks the chapter's log for everything, opened again too.
func TestExampleWhole(t *testing.T) {
	l, d := example(t)
	expect(t, "the example", l, d)
	expect(t, "the example, opened", opened(t, d, config()), d)
}
