package names_test

import (
	"slices"
	"testing"

	"gantry/api"
	"gantry/names"
)

// TestReadmeExample runs what README.md shows.
func TestReadmeExample(t *testing.T) {
	if name, e := names.Name(7, names.Offsets); name != "00000000000000000007.off" || e != api.OK {
		t.Errorf("%q, %d", name, e)
	}
	if base, kind, ok := names.Parse("00000000000000000007.off"); base != 7 || kind != names.Offsets || !ok {
		t.Errorf("%d, %d, %t", base, kind, ok)
	}
	if base, kind, ok := names.Parse("7.off"); base != 0 || kind != 0 || ok {
		t.Errorf("%d, %d, %t", base, kind, ok)
	}
	segments, stray := names.Group([]string{"00000000000000000007.off", "x", "00000000000000000007.log", "00000000000000000000.log"})
	if !slices.Equal(segments, []names.Segment{{Base: 0, Has: [3]bool{true}}, {Base: 7, Has: [3]bool{true, true}}}) || !slices.Equal(stray, []string{"x"}) {
		t.Errorf("%v, %q", segments, stray)
	}
	if segments[1].Whole() {
		t.Error("there is no index of times")
	}
	if next, ok := names.Next(0, segments); next != 7 || !ok {
		t.Errorf("%d, %t", next, ok)
	}
	if next, ok := names.Next(7, segments); next != 0 || ok {
		t.Errorf("%d, %t", next, ok)
	}
}
