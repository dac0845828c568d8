package scan_test

import (
	"fmt"
	"slices"
	"strings"
	"testing"

	"gantry/api"
	"gantry/scan"
)

// expectBegins sees to it that the run of src begins with the frames of list, and that All, Walk and File tell the same of it.
func expectBegins(t *testing.T, name, src string, base int64, list []scan.Found) []scan.Found {
	t.Helper()
	expectRun(t, name, src, base, api.MostFrame, api.MostPlain)
	got, _, _ := scan.All(src, base, api.MostFrame, api.MostPlain)
	if len(got) < len(list) || !slices.Equal(got[:len(list)], list) {
		t.Errorf("P12.5: %s: %+v, which should begin with %+v", name, got, list)
	}
	return got
}

// TestCuts cuts some frames at every place: those that end by then are left, and no other.
func TestCuts(t *testing.T) {
	frames := newDice(2).frames(t, 3, 5)
	src := strings.Join(frames, "")
	list, _, _ := scan.All(src, 3, api.MostFrame, api.MostPlain)
	for n := range len(src) + 1 {
		count := endedBy(frames, n)
		why := api.ErrShort
		if n == 0 || slices.Contains(ends(frames), n) {
			why = api.OK
		}
		expectEnd(t, fmt.Sprint("cut at ", n), src[:n], 3, count, why)
		expectBegins(t, "cut", src[:n], 3, list[:count])
	}
}

// TestTurns turns every bit of some frames: those that end ahead of it are left as they are, and its own is none.
func TestTurns(t *testing.T) {
	frames := newDice(3).frames(t, 3, 4)
	src := strings.Join(frames, "")
	list, _, _ := scan.All(src, 3, api.MostFrame, api.MostPlain)
	for at := range len(src) {
		for bit := range 8 {
			name := fmt.Sprintf("bit %d of byte %d", bit, at)
			count := endedBy(frames, at)
			if got := expectBegins(t, name, turned(src, at, 1<<bit), 3, list[:count]); len(got) != count {
				t.Errorf("P12.5: %s: %d frames, want %d", name, len(got), count)
			}
		}
	}
}

// TestBehind lays anything behind a run, whole or cut: its frames are the first of the longer one's.
func TestBehind(t *testing.T) {
	for seed := range uint64(300) {
		d := newDice(seed)
		base := d.Int64N(1 << d.IntN(40))
		src := strings.Join(d.frames(t, base, d.IntN(5)), "")
		src = src[:len(src)-d.IntN(min(len(src), 3)+1)]
		list, end, _ := scan.All(src, base, api.MostFrame, api.MostPlain)
		next := base
		if len(list) > 0 {
			next = list[len(list)-1].Base + int64(list[len(list)-1].Count)
		}
		more := strings.Join(d.frames(t, next, 2), "")
		for _, behind := range []string{"", d.text(), src, more, more[:d.IntN(len(more))], strings.Repeat("\x00", 80)} {
			got := expectBegins(t, fmt.Sprint("seed ", seed), src+behind, base, list)
			if behind == more && end == len(src) && len(got) != len(list)+2 {
				t.Errorf("P12.5: seed %d: %d frames, and two more behind: %d", seed, len(list), len(got))
			}
		}
	}
}

// TestHarmed does several kinds of harm to frames at some place, under some limits.
func TestHarmed(t *testing.T) {
	count := map[api.Errno]int{}
	for seed := range uint64(3000) {
		d := newDice(seed)
		base := d.Int64N(9)
		frames := d.frames(t, base, 1+d.IntN(6))
		if d.IntN(4) == 0 {
			i, k := d.IntN(len(frames)), d.IntN(len(frames))
			frames[i], frames[k] = frames[k], frames[i]
		}
		src := strings.Join(frames, "")
		ahead, _, _ := scan.All(src, base, api.MostFrame, api.MostPlain)
		at := d.IntN(len(src))
		kept := ahead[:min(len(ahead), endedBy(frames, at))]
		switch d.IntN(4) {
		case 0:
			src = src[:at]
		case 1:
			src = turned(src, at, byte(1+d.IntN(255)))
		case 2:
			src = src[:at] + d.text() + src[at:]
		case 3:
			src = src[:at] + src[at+d.IntN(len(src)-at):]
		}
		expectBegins(t, fmt.Sprint("seed ", seed), src, base, kept)
		_, e := expectRun(t, fmt.Sprint("seed ", seed, ", limits"), src, base, 58+d.IntN(400), d.IntN(600))
		count[e]++
	}
	for _, e := range []api.Errno{api.OK, api.ErrShort, api.ErrBatch, api.ErrSum, api.ErrBig, api.ErrOrder} {
		if count[e] < 10 {
			t.Errorf("the error %d is met %d times only", e, count[e])
		}
	}
}
