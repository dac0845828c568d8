package seek_test

import (
	"slices"
	"testing"

	"gantry/api"
	"gantry/batch"
	"gantry/disk"
	"gantry/plog"
	"gantry/seek"
)

// TestReadmeExample runs what README.md shows.
func TestReadmeExample(t *testing.T) {
	d := disk.New(10000)
	l, e := plog.Open(d, api.Config{Segment: 150, Frame: 1000, Plain: 1000, Every: 60, Room: 10000, First: 5})
	if e != api.OK {
		t.Fatal(e)
	}
	for _, at := range []int64{10, 20, 15} {
		f, _ := batch.Encode(api.Batch{Producer: -1, Seq: -1, Records: []api.Record{{Time: at}, {Time: at - 3}}})
		l.Append(f)
	}
	h, m, e := seek.Find(l, 8)
	if h.Base != 7 || h.Length != 65 || h.Segment != 0 || h.At != 65 || m != (api.Meter{Probes: 1, Bytes: 51}) || e != api.OK {
		t.Errorf("%+v, %+v, %d", h, m, e)
	}
	if s, e := seek.Fetch(l, 8, 130); len(s) != 130 || e != api.OK {
		t.Errorf("%d, %d", len(s), e)
	}
	if s, e := seek.Fetch(l, 8, 0); len(s) != 65 || e != api.OK {
		t.Errorf("%d, %d", len(s), e)
	}
	if s, e := seek.Fetch(l, 11, 130); s != "" || e != api.OK {
		t.Errorf("%d, %d", len(s), e)
	}
	if _, e := seek.Fetch(l, 12, 130); e != api.ErrOffset {
		t.Errorf("%d", e)
	}
	if o, e := seek.Time(l, 11); o != 7 || e != api.OK {
		t.Errorf("%d, %d", o, e)
	}
	if _, e := seek.Time(l, 21); e != api.ErrNone {
		t.Errorf("%d", e)
	}
	rows, e := seek.Rows(l, 6, 2)
	if len(rows) != 2 || rows[0].Offset != 6 || rows[0].Record.Time != 7 || rows[1].Offset != 7 || rows[1].Record.Time != 20 || e != api.OK {
		t.Errorf("%+v, %d", rows, e)
	}
	var bases []int64
	for hit := range seek.Walk(l) {
		bases = append(bases, hit.Base)
	}
	if !slices.Equal(bases, []int64{5, 7, 9}) {
		t.Errorf("%d", bases)
	}
}
