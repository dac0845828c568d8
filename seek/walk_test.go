package seek_test

import (
	"slices"
	"testing"

	"gantry/api"
	"gantry/disk"
	"gantry/plog"
	"gantry/seek"
)

// seven answers a log of seven frames in four segments, and its frames by Walk.
func seven(t *testing.T) (*plog.Log, *disk.Disk, []seek.Hit) {
	t.Helper()
	l, d := logOf(t, config(), timed(t, 1), timed(t, 2, 3), timed(t, 4), timed(t, 5), timed(t, 6, 6), timed(t, 7), timed(t, 8))
	hits := flatOf(t, d, config()).hits()
	if len(hits) != 7 || l.Segments() != 4 {
		t.Fatalf("%d frames in %d segments", len(hits), l.Segments())
	}
	return l, d, hits
}

func TestWalkAgain(t *testing.T) {
	l, _, hits := seven(t)
	walk := seek.Walk(l)
	for range 3 {
		if got := slices.Collect(walk); !slices.Equal(got, hits) {
			t.Errorf("P16.5: %+v, want %+v", got, hits)
		}
	}
}

// TestWalkBrokenOff breaks off behind each frame, and ranges again.
func TestWalkBrokenOff(t *testing.T) {
	l, _, hits := seven(t)
	walk := seek.Walk(l)
	for n := 1; n <= len(hits); n++ {
		var got []seek.Hit
		for h := range walk {
			got = append(got, h)
			if len(got) == n {
				break
			}
		}
		if !slices.Equal(got, hits[:n]) {
			t.Errorf("P16.5: broken off behind %d: %+v", n, got)
		}
		calls := 0
		walk(func(seek.Hit) bool {
			calls++
			return calls < n
		})
		if calls != n {
			t.Errorf("P16.5: it goes on, broken off behind %d: %d", n, calls)
		}
	}
}

func TestWalkNested(t *testing.T) {
	l, _, hits := seven(t)
	walk := seek.Walk(l)
	var outer []seek.Hit
	for h := range walk {
		outer = append(outer, h)
		var inner []seek.Hit
		for g := range walk {
			inner = append(inner, g)
			if g == h {
				break
			}
		}
		if !slices.Equal(inner, hits[:len(outer)]) {
			t.Errorf("P16.5: within %+v: %+v", h, inner)
		}
	}
	if !slices.Equal(outer, hits) {
		t.Errorf("P16.5: %+v, want %+v", outer, hits)
	}
}

// TestWalkBegins: the frames are those of the moment when a range begins, not of the call of Walk.
func TestWalkBegins(t *testing.T) {
	l, d := logOf(t, config())
	walk := seek.Walk(l)
	for n := range 5 {
		want := flatOf(t, d, config()).hits()
		if got := slices.Collect(walk); len(want) != n || !slices.Equal(got, want) {
			t.Errorf("P16.5: with %d frames: %+v, want %+v", n, got, want)
		}
		add(t, l, timed(t, int64(n)))
	}
	l.Trim(8)
	want := flatOf(t, d, config()).hits()
	if got := slices.Collect(walk); len(want) != 3 || !slices.Equal(got, want) {
		t.Errorf("P16.5: trimmed: %+v, want %+v", got, want)
	}
}

// TestWalkWhileTheLogChanges: what is appended or trimmed within a range isn't seen in it, but in the next one; nor in the ranges around it.
func TestWalkWhileTheLogChanges(t *testing.T) {
	changes := map[string]func(l *plog.Log){
		"appended": func(l *plog.Log) { add(t, l, timed(t, 9)) },
		"trimmed":  func(l *plog.Log) { l.Trim(l.End()) },
		"both": func(l *plog.Log) {
			add(t, l, timed(t, 9), timed(t, 9), timed(t, 9))
			l.Trim(l.End())
		},
	}
	for name, change := range changes {
		for when := range 7 {
			l, d, hits := seven(t)
			walk := seek.Walk(l)
			var got []seek.Hit
			for h := range walk {
				if len(got) == when {
					change(l)
					inner := slices.Collect(walk)
					if want := flatOf(t, d, config()).hits(); !slices.Equal(inner, want) {
						t.Errorf("P16.5: %s within %d: the inner range: %+v, want %+v", name, when, inner, want)
					}
				}
				got = append(got, h)
			}
			if !slices.Equal(got, hits) {
				t.Errorf("P16.5: %s within %d: %+v, want %+v", name, when, got, hits)
			}
		}
	}
}

// TestWalkGoesOnWithItself: a range that appends a frame for each that it sees comes to its end.
func TestWalkGoesOnWithItself(t *testing.T) {
	l, _, _ := seven(t)
	n := 0
	for h := range seek.Walk(l) {
		add(t, l, timed(t, h.Greatest))
		n++
	}
	if n != 7 || l.End() != 5+9+7 {
		t.Errorf("P16.5: %d frames, the end is %d", n, l.End())
	}
}

// TestWalkFails: a range can't tell an error; it ends with the frames ahead of what can't be read.
func TestWalkFails(t *testing.T) {
	_, d, hits := seven(t)
	for n := range len(hits) {
		files := &failing{Disk: d.Clone(), left: 1 << 30}
		l := opened(t, files, config())
		files.left, files.why = n, api.ErrSum
		if got := slices.Collect(seek.Walk(l)); !slices.Equal(got, hits[:n]) {
			t.Errorf("P16.7: read number %d fails: %+v", n, got)
		}
	}
}
