package power_test

import (
	"strings"
	"testing"

	"gantry/api"
	"gantry/disk"
	"gantry/power"
)

func TestNilDisk(t *testing.T) {
	var d *disk.Disk
	fates := []api.Fate{{Name: "a", Keep: 3, Over: []api.Write{{Data: "x"}}}, {}, {Name: "a", Keep: -1}, {Name: "b"}}
	power.Crash(d)
	power.Crash(d, fates...)
	power.Harm(d)
	power.Harm(d, fates...)
	if len(d.List()) != 0 || d.Used() != 0 || len(power.Least(d)) != 0 || len(power.Most(d)) != 0 {
		t.Errorf("P8.6: %q, %v, %v", d.List(), power.Least(d), power.Most(d))
	}
	for _, c := range []struct {
		fates []api.Fate
		e     api.Errno
	}{
		{nil, api.OK},
		{fates, api.ErrNone},
		{fates[1:], api.ErrName},
		{fates[2:], api.ErrNone},
		{[]api.Fate{{Name: "a"}, {Name: "a"}}, api.ErrNone},
		{[]api.Fate{{Name: strings.Repeat("x", 256)}}, api.ErrName},
		{[]api.Fate{{Name: strings.Repeat("x", 255)}}, api.ErrNone},
	} {
		if e := power.Check(d, c.fates...); e != c.e {
			t.Errorf("P8.6: Check of %v is %d, not %d", c.fates, e, c.e)
		}
	}
}

// TestZeroDisk: it has no room, but names need none.
func TestZeroDisk(t *testing.T) {
	var d disk.Disk
	mustCrash(t, &d, api.Fate{Name: "a", Keep: 3})
	mustHarm(t, &d, api.Fate{Name: "a", Keep: 3, Over: []api.Write{{Data: "x"}}})
	if n, e := d.Size("a"); n != 0 || e != api.OK {
		t.Errorf("P8.3: %d, %d", n, e)
	}
	mustCrash(t, &d, api.Fate{Name: "a", Keep: 3})
}
