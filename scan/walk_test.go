package scan_test

import (
	"slices"
	"strings"
	"testing"

	"gantry/api"
	"gantry/scan"
)

// five answers five frames, and what stands in them by All.
func five(t *testing.T) (string, []scan.Found) {
	t.Helper()
	src := strings.Join(newDice(1).frames(t, 40, 5), "")
	list, _, e := scan.All(src, 40, api.MostFrame, api.MostPlain)
	if len(list) != 5 || e != api.OK {
		t.Fatalf("P12.1: %+v, %d", list, e)
	}
	return src, list
}

func TestWalkAgain(t *testing.T) {
	src, list := five(t)
	walk := scan.Walk(src+"x", 40, api.MostFrame, api.MostPlain)
	for range 3 {
		if got := slices.Collect(walk); !slices.Equal(got, list) {
			t.Errorf("P12.2: %+v, want %+v", got, list)
		}
	}
}

// TestWalkBrokenOff breaks off behind each frame, and ranges again.
func TestWalkBrokenOff(t *testing.T) {
	src, list := five(t)
	walk := scan.Walk(src, 40, api.MostFrame, api.MostPlain)
	for n := 1; n <= len(list); n++ {
		var got []scan.Found
		for f := range walk {
			got = append(got, f)
			if len(got) == n {
				break
			}
		}
		if !slices.Equal(got, list[:n]) {
			t.Errorf("P12.2: broken off behind %d: %+v", n, got)
		}
		calls := 0
		walk(func(scan.Found) bool {
			calls++
			return calls < n
		})
		if calls != n {
			t.Errorf("P12.2: it goes on, broken off behind %d: %d", n, calls)
		}
	}
}

func TestWalkNested(t *testing.T) {
	src, list := five(t)
	walk := scan.Walk(src, 40, api.MostFrame, api.MostPlain)
	var outer []scan.Found
	for f := range walk {
		outer = append(outer, f)
		var inner []scan.Found
		for g := range walk {
			inner = append(inner, g)
			if g == f {
				break
			}
		}
		if !slices.Equal(inner, list[:len(outer)]) {
			t.Errorf("P12.2: within %+v: %+v", f, inner)
		}
	}
	if !slices.Equal(outer, list) {
		t.Errorf("P12.2: %+v, want %+v", outer, list)
	}
}

func TestWalkNothing(t *testing.T) {
	f, g := pair(t)
	for _, src := range []string{"", "x", f[:69], g, turned(f, 60, 1) + g} {
		walk := scan.Walk(src, 5, -1, -1)
		if walk == nil {
			t.Fatal("P12.2: Walk answers nil")
		}
		for f := range walk {
			t.Errorf("P12.2: %+v", f)
		}
	}
}
