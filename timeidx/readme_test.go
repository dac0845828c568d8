package timeidx_test

import (
	"testing"

	"gantry/api"
	"gantry/timeidx"
)

// TestReadmeExample runs what README.md shows.
func TestReadmeExample(t *testing.T) {
	x := timeidx.New()
	if e := x.Append(api.Entry{Key: 5, At: 10}); e != api.OK {
		t.Errorf("%d", e)
	}
	if e := x.Append(api.Entry{Key: 5, At: 11}); e != api.OK {
		t.Errorf("%d", e)
	}
	if e := x.Append(api.Entry{Key: 4, At: 20}); e != api.ErrOrder {
		t.Errorf("%d", e)
	}
	if e := x.Append(api.Entry{Key: 9, At: -1}); e != api.ErrRange {
		t.Errorf("%d", e)
	}
	if entry, probes, ok := x.Find(6); entry != (api.Entry{Key: 5, At: 11}) || probes != 1 || !ok {
		t.Errorf("%v, %d, %t", entry, probes, ok)
	}
	if _, _, ok := x.Find(5); ok {
		t.Error("an entry for 5")
	}
	s := x.Bytes()
	if first, _ := x.Entry(0); len(s) != 2*timeidx.EntrySize || s[:timeidx.EntrySize] != timeidx.Form(first) {
		t.Errorf("%x", s)
	}
	twin, e := timeidx.Read(s)
	if e != api.OK || twin.Len() != 2 {
		t.Fatalf("%d", e)
	}
	if _, e = timeidx.Read(s[1:]); e != api.ErrEntries {
		t.Errorf("%d", e)
	}
	if e = x.Cut(1); e != api.OK {
		t.Errorf("%d", e)
	}
	if last, ok := x.Last(); last != (api.Entry{Key: 5, At: 10}) || !ok {
		t.Errorf("%v, %t", last, ok)
	}
	if last, ok := twin.Last(); last != (api.Entry{Key: 5, At: 11}) || !ok {
		t.Errorf("%v, %t", last, ok)
	}
}
