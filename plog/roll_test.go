package plog_test

import (
	"math"
	"slices"
	"strconv"
	"testing"

	"gantry/api"
	"gantry/disk"
	"gantry/names"
)

// TestRollEdges: it rolls just where the bytes together would be above Segment, and never over a segment without frames.
func TestRollEdges(t *testing.T) {
	for _, c := range []struct {
		segment int
		sizes   []int
		bases   []int64
	}{
		{120, []int{60, 60, 60}, []int64{5, 7}},
		{119, []int{60, 60, 60}, []int64{5, 6, 7}},
		{121, []int{60, 61, 60}, []int64{5, 7}},
		{120, []int{60, 61, 60}, []int64{5, 6, 7}},
		{180, []int{60, 60, 60, 60}, []int64{5, 8}},
		{100, []int{200, 60, 200, 60, 60}, []int64{5, 6, 7, 8, 9}},
		{260, []int{200, 60, 200, 60, 60}, []int64{5, 7, 9}},
		{60, []int{60, 60}, []int64{5, 6}},
		{1, []int{60, 60, 60}, []int64{5, 6, 7}},
		{0, []int{60, 60}, []int64{5, 6}},
		{math.MinInt, []int{60, 60}, []int64{5, 6}},
		{math.MaxInt, []int{60, 600, 60}, []int64{5}},
	} {
		config := config()
		config.Segment = c.segment
		d := disk.New(10000)
		l := opened(t, d, config)
		config.Segment = min(max(c.segment, 1), api.MostSegment)
		p := &pair{l, newSheet(config), d}
		for _, n := range c.sizes {
			p.append(t, "edges", sized(t, n))
		}
		if !slices.Equal(l.Bases(), c.bases) {
			t.Errorf("P15.3: frames of %d bytes by segments of %d: the bases are %d, want %d", c.sizes, c.segment, l.Bases(), c.bases)
		}
		p.expect(t, "P15.3: edges")
	}
}

// TestRollCalls: the new files come first, then the frame, and then the segment ahead is made safe, and that alone.
func TestRollCalls(t *testing.T) {
	files := newSpy(t, disk.New(10000))
	l := opened(t, files, config())
	l.Append(single(t, 1))
	files.took()
	l.Append(single(t, 2))
	files.expect("P15.3: Append", "append 5.log", "append 5.off", "append 5.tim")
	l.Append(single(t, 3))
	files.expect("P15.3: a roll", "create 7.log", "create 7.off", "create 7.tim", "append 7.log", "sync 5.log")
	for base, want := range map[int64]int{5: 120, 7: 0} {
		if n, _ := files.Synced(nameOf(base, names.Log)); n != want {
			t.Errorf("P15.3: behind a roll %d bytes of the segment %d are safe", n, base)
		}
	}
	l.Flush()
	files.expect("P15.4: Flush", "sync 7.log")
}

// TestRollFull: a frame that needs a new segment finds no room, at every number of bytes that are left.
func TestRollFull(t *testing.T) {
	for left := range 61 {
		c := config()
		c.Room = 60 + 58 + 32 + left
		p := newPair(t, c)
		name := "P15.3: a roll with room for " + strconv.Itoa(left) + " bytes"
		p.append(t, name, single(t, 1), sent(t, 4, 0, 1))
		ahead := snapshot(p.d)
		p.append(t, name, sized(t, 60))
		if left == 60 {
			if p.l.Segments() != 2 {
				t.Errorf("%s: %d segments", name, p.l.Segments())
			}
			continue
		}
		if p.l.Segments() != 1 || p.l.End() != 7 || snapshot(p.d) != ahead {
			t.Errorf("%s: %d segments, the end is %d", name, p.l.Segments(), p.l.End())
		}
		p.expect(t, name)
		if base, double, e := p.l.Append(sent(t, 4, 0, 1)); base != 6 || !double || e != api.OK {
			t.Errorf("%s: a batch that is there: %d, %t, %d", name, base, double, e)
		}
		p.reopen(t)
		p.expect(t, name+", opened")
	}
}

// TestRollOfMostFiles: where there is place for fewer than three files a roll is refused by ErrFull, and nothing else is.
func TestRollOfMostFiles(t *testing.T) {
	p := newPair(t, config())
	p.append(t, "two", single(t, 1), single(t, 2))
	for n := range api.MostFiles - 3 {
		p.d.Create(strconv.Itoa(n))
	}
	for left := range 3 {
		files := p.d.List()
		if base, double, e := p.l.Append(sent(t, 4, 0, 1)); base != 0 || double || e != api.ErrFull {
			t.Errorf("P8: a roll with place for %d files: %d, %t, %d", left, base, double, e)
		}
		if !slices.Equal(p.d.List(), files) {
			t.Errorf("P8: a roll with place for %d files leaves %d", left, len(p.d.List()))
		}
		p.m.expect(t, "no further file", p.l)
		p.d.Remove(strconv.Itoa(left))
	}
	p.append(t, "place for three", sent(t, 4, 0, 1))
	p.m.expect(t, "place for three files", p.l)
}

// TestRollErrors: whatever error a new file has, it is ErrFull; the frame's is told as it is; and no new file is left.
func TestRollErrors(t *testing.T) {
	for _, call := range []string{"create 7.log", "create 7.off", "create 7.tim", "append 7.log", "sync 5.log"} {
		for _, e := range append(strange(), api.ErrFull) {
			p := newPair(t, config())
			p.append(t, "two", single(t, 1), single(t, 2))
			files := newSpy(t, p.d)
			l := opened(t, files, config())
			want := e
			if call[:6] == "create" {
				want = api.ErrFull
			}
			files.fails[call] = e
			ahead := snapshot(p.d)
			if base, double, got := l.Append(sent(t, 4, 0, 1)); base != 0 || double || got != want {
				t.Errorf("P15.3: %s fails by %d: %d, %t, %d", call, e, base, double, got)
			}
			if snapshot(p.d) != ahead {
				t.Errorf("P15.3: %s fails by %d: the files are %s", call, e, p.d.List())
			}
			p.m.expect(t, call+" fails", l)
			files.fails[call] = api.OK
			if base, double, e := l.Append(sent(t, 4, 0, 1)); base != 7 || double || e != api.OK {
				t.Errorf("P15.3: behind it: %d, %t, %d", base, double, e)
			}
		}
	}
}

// TestRollOverEmpty: a log whose last segment has no frame, as a crash leaves it, goes on in that one.
func TestRollOverEmpty(t *testing.T) {
	p := newPair(t, config())
	p.append(t, "three", single(t, 1), single(t, 2), single(t, 3))
	p.d.Cut(nameOf(7, names.Log), 0)
	p.m.last().frames = nil
	p.reopen(t)
	p.expect(t, "the last without frames")
	p.append(t, "on", sized(t, 300), single(t, 4))
	if !slices.Equal(p.l.Bases(), []int64{5, 7, 8}) {
		t.Errorf("P15.3: the bases are %d", p.l.Bases())
	}
	p.expect(t, "P15.3: gone on")
}
