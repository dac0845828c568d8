package disk_test

import (
	"strings"
	"testing"

	"gantry/api"
	"gantry/disk"
)

// TestReadmeExample runs what README.md shows.
func TestReadmeExample(t *testing.T) {
	d := disk.New(10)
	if e := d.Create("a"); e != api.OK {
		t.Errorf("%d", e)
	}
	if n, e := d.Append("a", "12345678"); n != 8 || e != api.OK {
		t.Errorf("%d, %d", n, e)
	}
	if e := d.Sync("a"); e != api.OK {
		t.Errorf("%d", e)
	}
	if n, e := d.Append("a", "abcde"); n != 2 || e != api.ErrFull {
		t.Errorf("%d, %d", n, e)
	}
	if n, e := d.Synced("a"); n != 8 || e != api.OK {
		t.Errorf("%d, %d", n, e)
	}
	if s, e := d.Read("a", 6, 3); s != "78a" || e != api.OK {
		t.Errorf("%q, %d", s, e)
	}
	if calls, bytes := d.Reads(); calls != 1 || bytes != 3 {
		t.Errorf("%d, %d", calls, bytes)
	}
	twin := d.Clone()
	if e := d.Cut("a", 6); e != api.OK {
		t.Errorf("%d", e)
	}
	if n, e := d.Synced("a"); n != 6 || e != api.OK || d.Used() != 6 {
		t.Errorf("%d, %d, %d", n, e, d.Used())
	}
	if e := d.Remove("a"); e != api.OK || len(d.List()) != 0 {
		t.Errorf("%d, %q", e, d.List())
	}
	if twin.Used() != 10 || strings.Join(twin.List(), " ") != "a" {
		t.Errorf("%d, %q", twin.Used(), twin.List())
	}
}
