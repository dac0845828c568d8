package power_test

import (
	"strings"
	"testing"

	"gantry/api"
	"gantry/disk"
	"gantry/power"
)

// TestReadmeExample runs what README.md shows.
func TestReadmeExample(t *testing.T) {
	d := disk.New(20)
	d.Create("a")
	d.Append("a", "ab")
	d.Sync("a")
	d.Append("a", "cdef")
	f := api.Fate{Name: "a", Keep: 4, Over: []api.Write{{At: 1, Data: "XYZW"}}}
	if left := power.Left("abcdef", 2, f); left != "abYZ" {
		t.Errorf("%q", left)
	}
	if kind := power.Of("abcdef", 2, f); kind != power.Both {
		t.Errorf("%d", kind)
	}
	if e := power.Check(d, f); e != api.ErrFate {
		t.Errorf("%d", e)
	}
	least, most := power.Least(d), power.Most(d)
	if len(least) != 1 || least[0].Keep != 2 || len(most) != 1 || most[0].Keep != 6 {
		t.Errorf("%v, %v", least, most)
	}
	power.Crash(d, f)
	if s := sheetOf(t, d); s.files[0] != (paper{"a", "abYZ", 4}) {
		t.Errorf("%+v", s)
	}
	power.Harm(d, api.Fate{Name: "a", Keep: 2, Over: []api.Write{{At: 1, Data: "!?"}}}, api.Fate{Name: "b"})
	if s := sheetOf(t, d); s.files[0] != (paper{"a", "a!?", 2}) || s.files[1] != (paper{"b", "", 0}) {
		t.Errorf("%+v", s)
	}
	power.Harm(d, api.Fate{Name: "a", Keep: -1})
	if l := strings.Join(d.List(), " "); l != "b" {
		t.Errorf("%q", l)
	}
}
