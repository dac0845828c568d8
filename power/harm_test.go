package power_test

import (
	"math"
	"math/rand/v2"
	"strings"
	"testing"

	"gantry/api"
	"gantry/disk"
	"gantry/power"
)

func mustHarm(t *testing.T, d *disk.Disk, fates ...api.Fate) {
	t.Helper()
	want := sheetOf(t, d).harmed(fates)
	power.Harm(d, fates...)
	mustBe(t, "P8.3", d, want)
}

// TestHarmTable does harm to the file a of "abcdef", 2 of it safe; 8 bytes have room besides.
func TestHarmTable(t *testing.T) {
	for _, c := range []struct {
		keep   int
		over   []api.Write
		a      string
		synced int
	}{
		{2, []api.Write{{At: 1, Data: "XYZ"}}, "aXYZ", 2},
		{9, []api.Write{{At: 7, Data: "x"}}, "abcdef", 2},
		{6, nil, "abcdef", 2},
		{math.MaxInt, nil, "abcdef", 2},
		{5, nil, "abcde", 2},
		{2, nil, "ab", 2},
		{1, nil, "a", 1},
		{0, nil, "", 0},
		{0, []api.Write{{At: 0, Data: "new"}}, "new", 0},
		{1, []api.Write{{At: 1, Data: "new"}}, "anew", 1},
		{0, []api.Write{{At: 1, Data: "far"}}, "", 0},
		{6, []api.Write{{At: 6, Data: "gh"}, {At: 8, Data: "ij"}}, "abcdefghij", 2},
		{6, []api.Write{{At: 5, Data: "FG"}, {At: 0, Data: "AB"}}, "ABcdeFG", 2},
		{6, []api.Write{{At: -1, Data: "12"}, {At: 7, Data: "34"}, {At: 6}, {At: 0}}, "abcdef", 2},
		{6, []api.Write{{At: math.MinInt, Data: "12"}, {At: math.MaxInt, Data: "34"}}, "abcdef", 2},
		{4, []api.Write{{At: 5, Data: "x"}, {At: 4, Data: "E"}, {At: 5, Data: "F"}}, "abcdEF", 2},
		{6, []api.Write{{At: 4, Data: "0123456789ABCDEF"}, {At: 14, Data: "x"}, {At: 0, Data: "z"}}, "zbcd0123456789", 2},
	} {
		d := laid()
		f := api.Fate{Name: "a", Keep: c.keep, Over: c.over}
		mustHarm(t, d, f)
		if got := sheetOf(t, d); got.files[0] != (paper{"a", c.a, c.synced}) || got.calls != 2 || got.bytes != 4 {
			t.Errorf("P8.3: harm by %v leaves %+v, not %q with %d safe", f, got, c.a, c.synced)
		}
	}
}

func TestHarmRemoves(t *testing.T) {
	for _, keep := range []int{-1, -2, math.MinInt} {
		d := laid()
		mustHarm(t, d, api.Fate{Name: "a", Keep: keep, Over: []api.Write{{Data: "passed over"}}})
		if l := strings.Join(d.List(), " "); l != "b c" || d.Used() != 6 {
			t.Errorf("P8.3: Keep %d: %q, %d used", keep, l, d.Used())
		}
		mustHarm(t, d, api.Fate{Name: "a", Keep: keep, Over: []api.Write{{Data: "passed over"}}})
		if l := strings.Join(d.List(), " "); l != "b c" {
			t.Errorf("P8.3: Keep %d of no file: %q", keep, l)
		}
		mustHarm(t, d, api.Fate{Name: "b", Keep: keep}, api.Fate{Name: "b", Keep: 0, Over: []api.Write{{Data: "anew"}}})
		if n, e := d.Synced("b"); n != 0 || e != api.OK {
			t.Errorf("P8.3: of a file that is made anew %d are safe, %d", n, e)
		}
	}
}

func TestHarmMakes(t *testing.T) {
	for _, name := range []string{"new", "\x00", strings.Repeat("n", 255)} {
		for _, keep := range []int{0, 1, 100, math.MaxInt} {
			d := laid()
			mustHarm(t, d, api.Fate{Name: name, Keep: keep}, api.Fate{Name: name, Keep: keep})
			if n, e := d.Size(name); n != 0 || e != api.OK || len(d.List()) != 4 {
				t.Errorf("P8.3: %q with Keep %d: %d, %d", name, keep, n, e)
			}
			mustHarm(t, d, api.Fate{Name: name, Keep: keep, Over: []api.Write{{At: 1, Data: "y"}, {At: 0, Data: "x"}, {At: 1, Data: "z"}}})
			if s, e := d.Clone().Read(name, 0, 2); s != "xz" || e != api.OK {
				t.Errorf("P8.3: %q with Keep %d: %q, %d", name, keep, s, e)
			}
		}
	}
}

func TestHarmOfNamesThatCantBe(t *testing.T) {
	d := laid()
	want := sheetOf(t, d)
	for _, name := range []string{"", strings.Repeat("n", 256), strings.Repeat("a", 1<<16)} {
		for _, keep := range []int{-1, 0, 3} {
			power.Harm(d, api.Fate{Name: name, Keep: keep, Over: []api.Write{{Data: "x"}}})
			mustBe(t, "P8.3", d, want)
		}
	}
	// What stands behind such a fate is done all the same.
	mustHarm(t, d, api.Fate{Keep: 3}, api.Fate{Name: "c", Keep: 1})
}

// TestHarmInOrder: each fate finds what those ahead of it have left, of the same name too.
func TestHarmInOrder(t *testing.T) {
	d := laid()
	mustHarm(t, d,
		api.Fate{Name: "a", Keep: 3, Over: []api.Write{{At: 3, Data: "-"}}},
		api.Fate{Name: "c", Keep: -1},
		api.Fate{Name: "a", Keep: 9, Over: []api.Write{{At: 4, Data: "+"}}},
		api.Fate{Name: "c", Keep: 9, Over: []api.Write{{Data: "again"}}},
		api.Fate{Name: "a", Keep: 9, Over: []api.Write{{At: 0, Data: "AB"}}},
	)
	s := sheetOf(t, d)
	if s.files[0] != (paper{"a", "ABc-+", 2}) || s.files[1] != (paper{"b", "xyz", 3}) || s.files[2] != (paper{"c", "again", 0}) {
		t.Errorf("P8.3: %+v", s)
	}
}

// TestHarmWithoutRoom: as many bytes are appended as there is room for; writing over needs none.
func TestHarmWithoutRoom(t *testing.T) {
	for room := range 9 {
		d := disk.New(room)
		d.Create("a")
		d.Create("b")
		d.Append("b", "123")
		d.Append("a", "abc")
		mustHarm(t, d, api.Fate{Name: "a", Keep: 9, Over: []api.Write{{At: 0, Data: "ABCDEF"}}})
		mustHarm(t, d, api.Fate{Name: "new", Keep: 9, Over: []api.Write{{At: 0, Data: "x"}}})
		mustHarm(t, d, api.Fate{Name: "b", Keep: 1, Over: []api.Write{{At: 1, Data: "45"}, {At: 3, Data: "6"}}})
	}
}

// TestHarmAmongAllFiles: where no further file can be made, a fate of a new name does nothing, until there is a place.
func TestHarmAmongAllFiles(t *testing.T) {
	d := crowd()
	more := api.Fate{Name: "more", Keep: 1, Over: []api.Write{{Data: "x"}}}
	power.Harm(d, more, api.Fate{Name: "7", Keep: 2})
	if n, e := d.Size("7"); n != 2 || e != api.OK || len(d.List()) != api.MostFiles || d.Used() != 3*api.MostFiles-1 {
		t.Errorf("P8.3: %d, %d; %d files, %d bytes", n, e, len(d.List()), d.Used())
	}
	if _, e := d.Size("more"); e != api.ErrNone {
		t.Errorf("P8.3: %d", e)
	}
	power.Harm(d, api.Fate{Name: "8", Keep: -1}, more)
	if n, e := d.Size("more"); n != 1 || e != api.OK {
		t.Errorf("P8.3: %d, %d", n, e)
	}
}

func TestHarmByDice(t *testing.T) {
	dice := rand.New(rand.NewPCG(8, 5))
	for range 6000 {
		d := someDisk(dice)
		twin := d.Clone()
		before := sheetOf(t, twin)
		for range 3 {
			mustHarm(t, d, someFates(dice, 18)...)
		}
		mustBe(t, "P7.8", twin, before)
	}
}

func TestHarmOfNothing(t *testing.T) {
	d := laid()
	want := sheetOf(t, d)
	power.Harm(d)
	mustBe(t, "P8.3", d, want)
}

func TestHarmLeavesFates(t *testing.T) {
	mustLeaveFates(t, func(fates ...api.Fate) { power.Harm(laid(), fates...) })
}

// TestHarmAndCrash goes through both in turn, with bytes that come and go between.
func TestHarmAndCrash(t *testing.T) {
	dice := rand.New(rand.NewPCG(8, 6))
	for range 400 {
		d := someDisk(dice)
		for range 20 {
			switch dice.IntN(4) {
			case 0:
				mustHarm(t, d, someFates(dice, 18)...)
			case 1:
				mustCrash(t, d, someFates(dice, 18)...)
			case 2:
				d.Sync(pick(dice, someNames()))
			default:
				d.Append(pick(dice, someNames()), text(dice, 9))
			}
		}
	}
}
