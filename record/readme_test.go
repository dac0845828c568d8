package record_test

import (
	"slices"
	"testing"

	"gantry/api"
	"gantry/record"
)

// TestReadmeExample runs what README.md shows.
func TestReadmeExample(t *testing.T) {
	records := []api.Record{{Time: 5}, {Time: 3, Key: api.Opt{Has: true}, Value: api.Opt{Has: true, Data: "ab"}}}
	s, e := record.Bytes(records[1], 5, 1)
	if s != "\x08\x00\x03\x01\x00\x04ab\x00" || e != api.OK {
		t.Errorf("%x, %d", s, e)
	}
	if size, e := record.Size(records[1], 5, 1); size != 9 || e != api.OK {
		t.Errorf("%d, %d", size, e)
	}
	if r, n, e := record.Read(s+"more", 5, 1); !record.Same(r, records[1]) || n != 9 || e != api.OK {
		t.Errorf("%v, %d, %d", r, n, e)
	}
	if _, _, e := record.Read(s, 5, 2); e != api.ErrDelta {
		t.Errorf("%d", e)
	}
	body, e := record.Body(records)
	if body != "\x06\x00\x00\x00\x01\x01\x00"+s || e != api.OK {
		t.Errorf("%x, %d", body, e)
	}
	all, e := record.ReadBody(body, 5, 2)
	if !slices.EqualFunc(all, records, record.Same) || e != api.OK {
		t.Errorf("%v, %d", all, e)
	}
	if l, e := record.ReadBody(body, 5, 1); l != nil || e != api.ErrLeft {
		t.Errorf("%v, %d", l, e)
	}
	if record.Greatest(all) != 5 {
		t.Errorf("%d", record.Greatest(all))
	}
}
