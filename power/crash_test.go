package power_test

import (
	"math/rand/v2"
	"strconv"
	"testing"

	"gantry/api"
	"gantry/disk"
	"gantry/power"
)

func mustCrash(t *testing.T, d *disk.Disk, fates ...api.Fate) {
	t.Helper()
	want := sheetOf(t, d).crashed(fates)
	power.Crash(d, fates...)
	mustBe(t, "P8.2", d, want)
}

func TestCrashTable(t *testing.T) {
	for _, c := range []struct {
		fates   []api.Fate
		a, b, c string
	}{
		{nil, "ab", "xyz", ""},
		{[]api.Fate{{Name: "a", Keep: 4}}, "abcd", "xyz", ""},
		{[]api.Fate{{Name: "c", Keep: 99}}, "ab", "xyz", "123"},
		{[]api.Fate{{Name: "c", Keep: -1}, {Name: "c", Keep: 3}}, "ab", "xyz", ""},
		{[]api.Fate{{Name: "b", Keep: -1, Over: []api.Write{{At: 0, Data: "nothing"}}}}, "ab", "xyz", ""},
		{[]api.Fate{{Name: "none", Keep: 1}, {Name: "a", Keep: 4, Over: []api.Write{{At: 0, Data: "1234"}}}, {Name: "a", Keep: 6}}, "ab34", "xyz", ""},
		{[]api.Fate{{Name: "a", Keep: 5, Over: []api.Write{{At: -1, Data: "pqrs"}}}, {Name: "c", Keep: 2, Over: []api.Write{{At: 1, Data: "XYZ"}, {At: 0, Data: "W"}}}}, "absde", "xyz", "WX"},
		{[]api.Fate{{}, {Name: "A", Keep: 6}, {Name: "", Keep: 3}}, "ab", "xyz", ""},
	} {
		d := laid()
		mustCrash(t, d, c.fates...)
		s := sheetOf(t, d)
		if got := []string{s.files[0].bytes, s.files[1].bytes, s.files[2].bytes}; got[0] != c.a || got[1] != c.b || got[2] != c.c {
			t.Errorf("P8.2: a crash by %v leaves %q, not %q, %q, %q", c.fates, got, c.a, c.b, c.c)
		}
		if s.calls != 2 || s.bytes != 4 || s.room != 20 {
			t.Errorf("P8.2: behind a crash by %v: %+v", c.fates, s)
		}
	}
}

func TestCrashByDice(t *testing.T) {
	dice := rand.New(rand.NewPCG(8, 2))
	for range 6000 {
		d := someDisk(dice)
		twin := d.Clone()
		before := sheetOf(t, twin)
		// A second crash finds all that is left safe, whatever the fates.
		for range 2 {
			mustCrash(t, d, someFates(dice, 18)...)
		}
		mustBe(t, "P7.8", twin, before)
	}
}

// TestCrashedTwice: what a crash has left is safe, so another one takes nothing of it and writes nothing over it.
func TestCrashedTwice(t *testing.T) {
	d := laid()
	power.Crash(d, api.Fate{Name: "a", Keep: 4}, api.Fate{Name: "c", Keep: 2})
	want := sheetOf(t, d)
	power.Crash(d, api.Fate{Name: "a", Keep: 0, Over: []api.Write{{Data: "......"}}}, api.Fate{Name: "c", Keep: 9, Over: []api.Write{{Data: "..."}}})
	mustBe(t, "P8.2", d, want)
	if n, e := d.Append("a", "new bytes and more"); n != 11 || e != api.ErrFull {
		t.Errorf("P8.2: the room is %d, %d", n, e)
	}
	power.Crash(d)
	mustBe(t, "P8.2", d, want)
}

// TestCrashOfAFullDisk: a crash writes over what there is, and needs no room for it.
func TestCrashOfAFullDisk(t *testing.T) {
	d := disk.New(6)
	d.Create("a")
	d.Append("a", "abcdefgh")
	mustCrash(t, d, api.Fate{Name: "a", Keep: 8, Over: []api.Write{{At: 4, Data: "12345"}}})
}

// TestCrashOfAllFiles gives a fate to each of the most files that may be, and two to some.
func TestCrashOfAllFiles(t *testing.T) {
	d := crowd()
	var fates []api.Fate
	for i := range api.MostFiles {
		fates = append(fates, api.Fate{Name: strconv.Itoa(i), Keep: i % 4, Over: []api.Write{{At: 0, Data: "123"}}})
	}
	power.Crash(d, append(fates, api.Fate{Name: "7"}, api.Fate{Name: "8", Keep: 3})...)
	twin := d.Clone()
	for i := range api.MostFiles {
		want := []string{"p", "p", "p2", "p23"}[i%4]
		if s, e := twin.Read(strconv.Itoa(i), 0, len(want)); s != want || e != api.OK {
			t.Fatalf("P8.2: file %d has %q, %d", i, s, e)
		}
		if n, e := d.Synced(strconv.Itoa(i)); n != len(want) || e != api.OK {
			t.Fatalf("P8.2: of file %d %d are safe, %d", i, n, e)
		}
	}
	if n := len(d.List()); n != api.MostFiles || d.Used() != api.MostFiles/4*7 {
		t.Errorf("P8.2: %d files, %d bytes", n, d.Used())
	}
}

func TestCrashLeavesFates(t *testing.T) {
	mustLeaveFates(t, func(fates ...api.Fate) { power.Crash(laid(), fates...) })
}

func TestLeastAndMost(t *testing.T) {
	least := []api.Fate{{Name: "a", Keep: 2}, {Name: "b", Keep: 3}, {Name: "c", Keep: 0}}
	most := []api.Fate{{Name: "a", Keep: 6}, {Name: "b", Keep: 3}, {Name: "c", Keep: 3}}
	d := laid()
	want := sheetOf(t, d)
	if got := power.Least(d); !sameFates(got, least) {
		t.Errorf("P8.5: Least is %v", got)
	}
	if got := power.Most(d); !sameFates(got, most) {
		t.Errorf("P8.5: Most is %v", got)
	}
	mustBe(t, "P8.5", d, want)
	for _, d := range []*disk.Disk{disk.New(0), disk.New(9), {}} {
		if len(power.Least(d)) != 0 || len(power.Most(d)) != 0 {
			t.Errorf("P8.5: a disk without files: %v, %v", power.Least(d), power.Most(d))
		}
	}
}

func TestLeastAndMostByDice(t *testing.T) {
	dice := rand.New(rand.NewPCG(8, 3))
	for range 3000 {
		d := someDisk(dice)
		before := sheetOf(t, d)
		least, most := power.Least(d), power.Most(d)
		if len(least) != len(before.files) || len(most) != len(before.files) {
			t.Fatalf("P8.5: %v and %v of %+v", least, most, before)
		}
		for i, f := range before.files {
			if g := least[i]; g.Name != f.name || g.Keep != f.synced || len(g.Over) != 0 {
				t.Fatalf("P8.5: Least has %v for %+v", g, f)
			}
			if g := most[i]; g.Name != f.name || g.Keep != len(f.bytes) || len(g.Over) != 0 {
				t.Fatalf("P8.5: Most has %v for %+v", g, f)
			}
		}
		mustBe(t, "P8.5", d, before)
		if e, f := power.Check(d, least...), power.Check(d, most...); e != api.OK || f != api.OK {
			t.Fatalf("P8.4: the least fates are checked %d, the most %d", e, f)
		}
		mustBeCrashes(t, d, least, most)
	}
}

// mustBeCrashes: a crash by the least fates is one without fates, and one by the most changes no byte.
func mustBeCrashes(t *testing.T, d *disk.Disk, least, most []api.Fate) {
	t.Helper()
	bare, little, much := d.Clone(), d.Clone(), d.Clone()
	power.Crash(bare)
	power.Crash(little, least...)
	mustBe(t, "P8.5", little, sheetOf(t, bare))
	want := sheetOf(t, d)
	power.Crash(much, most...)
	for i := range want.files {
		want.files[i].synced = len(want.files[i].bytes)
	}
	mustBe(t, "P8.5", much, want)
}

// TestAnswersApart: what is done to an answer is seen in no other.
func TestAnswersApart(t *testing.T) {
	d := laid()
	for _, of := range []func(d *disk.Disk) []api.Fate{power.Least, power.Most} {
		want := cloneFates(of(d))
		one := of(d)
		two := of(d)
		for i := range one {
			one[i].Over = append(one[i].Over, api.Write{At: 1, Data: "x"})
			one[i].Name, one[i].Keep = "gone", -1
		}
		if !sameFates(two, want) || !sameFates(of(d), want) {
			t.Errorf("R3: %v, not %v", two, want)
		}
	}
}
