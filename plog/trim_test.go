package plog_test

import (
	"math"
	"slices"
	"strconv"
	"testing"

	"gantry/api"
	"gantry/disk"
	"gantry/names"
)

// long answers a log of four segments, of three producers and none.
func long(t *testing.T) *pair {
	t.Helper()
	p := newPair(t, config())
	p.append(t, "long", sent(t, 1, 0, 2), sent(t, 2, 0, 1), sent(t, 1, 2, 1), single(t, 9), sent(t, 1, 3, 3), sent(t, 3, 5, 1), single(t, 1))
	if !slices.Equal(p.l.Bases(), []int64{5, 8, 10, 14}) {
		t.Fatalf("P15.3: the bases are %d", p.l.Bases())
	}
	return p
}

// TestTrim trims a log at every offset, and outside of it.
func TestTrim(t *testing.T) {
	offsets := []int64{math.MinInt64, -1, 0, api.MostOffset, math.MaxInt64}
	for o := int64(1); o < 18; o++ {
		offsets = append(offsets, o)
	}
	for _, o := range offsets {
		name := "P15.5: Trim(" + strconv.Itoa(int(o)) + ")"
		p := long(t)
		ahead := snapshot(p.d)
		p.trim(t, name, o)
		if (o < 8 || o > 15) && snapshot(p.d) != ahead {
			t.Errorf("%s changes files", name)
		}
		p.expect(t, name)
		p.trim(t, name+" again", o)
		p.expect(t, name+" again")
		p.append(t, name+", and on", single(t, 1), sent(t, 1, 6, 1), sent(t, 2, 7, 1), sent(t, 3, 6, 1))
		p.expect(t, name+", and on")
		p.reopen(t)
		p.expect(t, name+", opened")
	}
}

// TestTrimForgets: of a producer whose batches are all trimmed away nothing is known any more; of one with some, those are.
func TestTrimForgets(t *testing.T) {
	p := long(t)
	first := sent(t, 2, 0, 1)
	if base, double, e := p.l.Append(first); base != 7 || !double || e != api.OK {
		t.Errorf("P15.3: a batch that is there: %d, %t, %d", base, double, e)
	}
	p.trim(t, "the first segment", 8)
	if got := p.l.Book().Producers(); !slices.Equal(got, []int64{1, 3}) {
		t.Errorf("P15.5: the producers are %d", got)
	}
	if _, _, e := p.l.Append(sent(t, 1, 0, 2)); e != api.ErrStale {
		t.Errorf("P15.5: a batch that is trimmed away, of a producer that is known: %d", e)
	}
	if base, double, e := p.l.Append(first); base != 15 || double || e != api.OK {
		t.Errorf("P15.5: a batch that is trimmed away, of a producer that isn't known: %d, %t, %d", base, double, e)
	}
}

// TestTrimToNothing: a log whose last segment has no frame may be trimmed to no frame at all.
func TestTrimToNothing(t *testing.T) {
	p := newPair(t, config())
	p.append(t, "three", sent(t, 1, 0, 1), sent(t, 1, 1, 1), single(t, 1))
	p.d.Cut(nameOf(7, names.Log), 0)
	p.m.last().frames = nil
	p.reopen(t)
	p.trim(t, "to the end", 7)
	if p.l.Start() != 7 || p.l.End() != 7 || p.l.Book().Len() != 0 {
		t.Errorf("P15.5: from %d to %d, %d producers", p.l.Start(), p.l.End(), p.l.Book().Len())
	}
	p.expect(t, "P15.5: no frame at all")
	p.reopen(t)
	p.expect(t, "P15.5: no frame at all, opened")
	p.append(t, "on", sent(t, 1, 9, 1))
	p.expect(t, "P15.5: no frame at all, and on")
}

// TestTrimOfNothing: of a log without frames the end alone can be asked for, and what is ahead of it.
func TestTrimOfNothing(t *testing.T) {
	for o := int64(-1); o < 8; o++ {
		p := newPair(t, config())
		p.trim(t, "no frames", o)
		p.expect(t, "P15.5: no frames")
	}
}

// TestTrimMakesRoom: what the removed segments took can be used again.
func TestTrimMakesRoom(t *testing.T) {
	c := config()
	c.Room = 400
	p := newPair(t, c)
	for i := range 200 {
		p.append(t, "round and round", single(t, int64(i)))
		if i%3 == 0 {
			p.trim(t, "round and round", p.m.end())
		}
	}
	if p.l.End() < 150 {
		t.Errorf("P15.5: the end is %d", p.l.End())
	}
	p.expect(t, "P15.5: round and round")
}

// TestTrimCalls: segments go from the first on, log files ahead of index files, so that what is left is always a log.
func TestTrimCalls(t *testing.T) {
	p := long(t)
	files := newSpy(t, p.d)
	l := opened(t, files, config())
	files.took()
	l.Trim(13)
	files.expect("P15.5: Trim", "remove 5.log", "remove 5.off", "remove 5.tim", "remove 8.log", "remove 8.off", "remove 8.tim")
	l.Trim(13)
	l.Trim(16)
	l.Trim(-1)
	files.expect("P15.5: Trim of nothing more")
}

// TestTrimErrors: a segment that can't be removed stays, with all behind it, and those ahead of it are gone.
func TestTrimErrors(t *testing.T) {
	for _, want := range strange() {
		p := long(t)
		files := newSpy(t, p.d)
		l := opened(t, files, config())
		files.fails["remove 8.log"] = want
		if start, e := l.Trim(14); start != 0 || e != want {
			t.Errorf("P15.5: the second segment's remove fails by %d: %d, %d", want, start, e)
		}
		p.m.trim(8)
		p.m.expect(t, "a remove that failed", l)
	}
}

// TestFlush: all that has been appended is safe then, and stays what it was.
func TestFlush(t *testing.T) {
	p := newPair(t, config())
	p.flush(t, "no frames")
	for i := range 6 {
		name := "P15.4: behind " + strconv.Itoa(i+1) + " frames"
		p.append(t, name, single(t, int64(i)))
		p.expect(t, name)
		if i%2 == 1 {
			p.flush(t, name)
			p.expect(t, name+", flushed")
			for _, part := range p.m.parts {
				file := nameOf(part.base, names.Log)
				safe, _ := p.d.Synced(file)
				if size, _ := p.d.Size(file); safe != size {
					t.Errorf("%s: %d bytes of %d are safe", name, safe, size)
				}
			}
		}
	}
	for _, want := range strange() {
		files := newSpy(t, disk.New(1000))
		l := opened(t, files, config())
		files.fails["sync 5.log"] = want
		if end, e := l.Flush(); end != 0 || e != want {
			t.Errorf("P15.4: the sync fails by %d: %d, %d", want, end, e)
		}
	}
}
