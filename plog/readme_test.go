package plog_test

import (
	"slices"
	"testing"

	"gantry/api"
	"gantry/batch"
	"gantry/disk"
	"gantry/plog"
)

// TestReadmeExample runs what README.md shows.
func TestReadmeExample(t *testing.T) {
	d := disk.New(10000)
	c := api.Config{Segment: 130, Frame: 1000, Plain: 1000, Every: 100, Room: 10000, First: 5}
	l, e := plog.Open(d, c)
	if e != api.OK || l.Start() != 5 || l.End() != 5 || len(d.List()) != 3 {
		t.Fatalf("%d, %s", e, d.List())
	}
	for i := range int32(3) {
		f, _ := batch.Encode(api.Batch{Producer: 7, Seq: i, Records: []api.Record{{Time: 1}}})
		base, double, e := l.Append(f)
		again, twice, why := l.Append(f)
		if base != 5+int64(i) || double || e != api.OK || again != base || !twice || why != api.OK {
			t.Errorf("%d, %t, %d; again %d, %t, %d", base, double, e, again, twice, why)
		}
	}
	if !slices.Equal(l.Bases(), []int64{5, 7}) {
		t.Errorf("%d", l.Bases())
	}
	if n, ok := l.Holder(6); n != 0 || !ok {
		t.Errorf("%d, %t", n, ok)
	}
	if size := l.Segment(0).Size(); size != 116 {
		t.Errorf("%d", size)
	}
	if next, ok := l.Book().Next(7); next != 3 || !ok {
		t.Errorf("%d, %t", next, ok)
	}
	if end, e := l.Flush(); end != 8 || e != api.OK {
		t.Errorf("%d, %d", end, e)
	}
	if start, e := l.Trim(7); start != 7 || e != api.OK || l.Segments() != 1 {
		t.Errorf("%d, %d", start, e)
	}
	if _, e := l.Trim(9); e != api.ErrOffset {
		t.Errorf("%d", e)
	}
	d.Append("00000000000000000007.log", "torn")
	d.Remove("00000000000000000007.off")
	twin, e := plog.Open(d, c)
	if e != api.OK || twin.Start() != 7 || twin.End() != 8 || len(d.List()) != 3 {
		t.Fatalf("%d, %s", e, d.List())
	}
	d.Create("00000000000000000009.log")
	if l, e := plog.Open(d, c); l != nil || e != api.ErrCorrupt {
		t.Errorf("%d", e)
	}
}
