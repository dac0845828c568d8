package offidx_test

import (
	"testing"

	"gantry/api"
	"gantry/offidx"
)

// TestReadmeExample runs what README.md shows.
func TestReadmeExample(t *testing.T) {
	x := offidx.New()
	if e := x.Add(api.Entry{Key: 5, At: 300}); e != api.OK {
		t.Errorf("%d", e)
	}
	if e := x.Add(api.Entry{Key: 100, At: 900}); e != api.OK {
		t.Errorf("%d", e)
	}
	if e := x.Add(api.Entry{Key: 200, At: 900}); e != api.ErrOrder {
		t.Errorf("%d", e)
	}
	if entry, ok, looks := x.Find(99); entry != (api.Entry{Key: 5, At: 300}) || !ok || looks != 2 {
		t.Errorf("%v, %t, %d", entry, ok, looks)
	}
	if _, ok, _ := x.Find(4); ok {
		t.Error("an entry for 4")
	}
	s := x.Bytes()
	if s != offidx.Put(x.Entries()...) || len(s) != 2*offidx.EntrySize {
		t.Errorf("%x", s)
	}
	twin, e := offidx.Load(s)
	if e != api.OK || twin.Len() != 2 {
		t.Fatalf("%d", e)
	}
	if _, e = offidx.Load(s[1:]); e != api.ErrEntries {
		t.Errorf("%d", e)
	}
	if e = x.Cut(1); e != api.OK {
		t.Errorf("%d", e)
	}
	if last, ok := x.Last(); last != (api.Entry{Key: 5, At: 300}) || !ok {
		t.Errorf("%v, %t", last, ok)
	}
	if last, ok := twin.Last(); last != (api.Entry{Key: 100, At: 900}) || !ok {
		t.Errorf("%v, %t", last, ok)
	}
}
