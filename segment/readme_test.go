package segment_test

import (
	"slices"
	"testing"

	"gantry/api"
	"gantry/disk"
	"gantry/segment"
)

// TestReadmeExample runs what README.md shows.
func TestReadmeExample(t *testing.T) {
	d := disk.New(1000)
	c := api.Config{Every: 100, Frame: 1000, Plain: 1000}
	s, e := segment.Make(d, 10, c)
	if e != api.OK || len(d.List()) != 3 {
		t.Fatalf("%d, %s", e, d.List())
	}
	last := ""
	for i := range int64(3) {
		last = encoded(t, api.Batch{Base: 10 + i, Producer: -1, Seq: -1, Records: []api.Record{{Time: 7 * i}}})
		if e, again := s.Append(last), s.Append(last); e != api.OK || again != api.ErrOrder {
			t.Errorf("%d, %d", e, again)
		}
	}
	if s.End() != 13 || s.Size() != 174 || s.Count() != 3 {
		t.Errorf("%d, %d, %d", s.End(), s.Size(), s.Count())
	}
	if latest, ok := s.Greatest(); latest != 14 || !ok {
		t.Errorf("%d, %t", latest, ok)
	}
	if !slices.Equal(s.Offsets(), []api.Entry{{Key: 2, At: 116}}) || !slices.Equal(s.Times(), []api.Entry{{Key: 7, At: 2}}) {
		t.Errorf("%d, %d", s.Offsets(), s.Times())
	}
	if at, looks := s.Place(12); at != 116 || looks != 1 {
		t.Errorf("%d, %d", at, looks)
	}
	if at, looks := s.PlaceTime(8); at != 116 || looks != 2 {
		t.Errorf("%d, %d", at, looks)
	}
	h, e := s.Head(116)
	if e != api.OK || h.Base != 12 || h.Length != 58 {
		t.Errorf("%+v, %d", h, e)
	}
	if f, e := s.Read(116, h.Length); f != last || e != api.OK {
		t.Errorf("%q, %d", f, e)
	}
	if e := s.Sync(); e != api.OK {
		t.Errorf("%d", e)
	}
	d.Append(logName, "torn")
	if twin, e := segment.Open(d, 10, c, false); twin != nil || e != api.ErrCorrupt {
		t.Errorf("%d", e)
	}
	twin, e := segment.Open(d, 10, c, true)
	size, _ := d.Size(logName)
	if e != api.OK || twin.End() != 13 || size != 174 {
		t.Errorf("%d, %d, %d", e, twin.End(), size)
	}
	if e := twin.Remove(); e != api.OK || len(d.List()) != 0 {
		t.Errorf("%d, %s", e, d.List())
	}
}
