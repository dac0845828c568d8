package segment_test

import (
	"math"
	"strconv"
	"strings"
	"testing"

	"gantry/api"
	"gantry/disk"
	"gantry/names"
	"gantry/segment"
)

func TestMake(t *testing.T) {
	for _, base := range []int64{0, 1, 10, 1 << 40, api.MostOffset - 1} {
		d := disk.New(1000)
		files := newSpy(t, d)
		s, e := segment.Make(files, base, config(100))
		if s == nil || e != api.OK {
			t.Fatalf("P13.1: Make(%d): %d", base, e)
		}
		files.expect("P13.1: Make", "create log", "create off", "create tim")
		sheet{base, 100, nil}.expect(t, "made anew", s)
		expectFiles(t, "P13.1: made anew", d, base, "", "", "")
		if n := len(d.List()); n != 3 {
			t.Errorf("P13.1: %d files", n)
		}
	}
}

func TestMakeOfNoRoom(t *testing.T) {
	d := disk.New(0)
	s, e := segment.Make(d, 10, config(100))
	if s == nil || e != api.OK || len(d.List()) != 3 {
		t.Errorf("P13.1: names need no room: %d, %s", e, d.List())
	}
}

// wrongBases are offsets that no segment begins with.
func wrongBases() []int64 {
	return []int64{math.MinInt64, -10, -1, api.MostOffset, api.MostOffset + 1, math.MaxInt64}
}

func TestMakeRefuses(t *testing.T) {
	for _, base := range append(wrongBases(), 10) {
		if s, e := segment.Make(nil, base, config(100)); s != nil || e != api.ErrNone {
			t.Errorf("P13.1: Make of nil files, base %d: %d", base, e)
		}
	}
	for _, base := range wrongBases() {
		files := newSpy(t, disk.New(1000))
		if s, e := segment.Make(files, base, config(100)); s != nil || e != api.ErrRange {
			t.Errorf("P13.1: Make(%d): %d", base, e)
		}
		files.expect("P13.1: a refused Make")
	}
	var gone *disk.Disk
	if s, e := segment.Make(gone, 10, config(100)); s != nil || e != api.ErrFull {
		t.Errorf("P13.1: Make upon a nil disk: %d", e)
	}
}

// TestMakeOverOthers: files that are there already, in all ways, stay as they are, and no other is left behind.
func TestMakeOverOthers(t *testing.T) {
	for set := 1; set < 8; set++ {
		d := disk.New(1000)
		for kind := range 3 {
			if set>>kind&1 == 1 {
				name, _ := names.Name(10, names.Kind(kind))
				d.Create(name)
				d.Append(name, "some bytes")
			}
		}
		ahead := snapshot(d)
		s, e := segment.Make(d, 10, config(100))
		if s != nil || e != api.ErrName || snapshot(d) != ahead {
			t.Errorf("P13.1: Make over the files %03b: %d, %q", set, e, snapshot(d))
		}
	}
}

// TestMakeOfMostFiles: there is place for no file, for one, for two, for three.
func TestMakeOfMostFiles(t *testing.T) {
	d := disk.New(1000)
	for n := range api.MostFiles {
		d.Create(strconv.Itoa(n))
	}
	for left := range 4 {
		s, e := segment.Make(d, 10, config(100))
		if want := left == 3; (s != nil) != want || (e == api.OK) != want || !want && e != api.ErrMost {
			t.Errorf("P13.1: Make with place for %d files: %d", left, e)
		}
		want := api.MostFiles - left
		if left == 3 {
			want = api.MostFiles
		}
		if n := len(d.List()); n != want {
			t.Errorf("P13.1: with place for %d files there are %d behind it", left, n)
		}
		d.Remove(strconv.Itoa(left))
	}
}

// TestMakeErrors: whatever error Create answers, for whichever file, is the answer.
func TestMakeErrors(t *testing.T) {
	for i, file := range []string{"log", "off", "tim"} {
		for _, want := range strange() {
			d := disk.New(1000)
			files := newSpy(t, d)
			files.fails["create "+file] = want
			if s, e := segment.Make(files, 10, config(100)); s != nil || e != want || len(d.List()) != 0 {
				t.Errorf("P13.1: %d for the file %s: %d, %s", want, file, e, d.List())
			}
			if calls := strings.Join(files.took(), " "); strings.Count(calls, "create") != i+1 || strings.Count(calls, "remove") != i {
				t.Errorf("P13.1: %s", calls)
			}
		}
	}
	for _, want := range strange() {
		files := newSpy(t, disk.New(1000))
		files.fails["create tim"] = api.ErrMost
		files.fails["remove log"] = want
		if s, e := segment.Make(files, 10, config(100)); s != nil || e != want {
			t.Errorf("Words: a file that can't be removed again: %d, want %d", e, want)
		}
	}
}
