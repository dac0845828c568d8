package plog_test

import (
	"math"
	"slices"
	"testing"

	"gantry/api"
	"gantry/disk"
)

// TestConfig: each number counts as the limits say.
func TestConfig(t *testing.T) {
	least := api.Config{Segment: 1, Frame: 58, Plain: 7, Every: 1}
	most := api.Config{Segment: api.MostSegment, Frame: api.MostFrame, Plain: api.MostPlain, Every: api.MostSegment, Room: 1 << 40, First: api.MostOffset - 1}
	for _, c := range []struct{ given, want api.Config }{
		{api.Config{}, least},
		{api.Config{Segment: -1, Frame: -1, Plain: -1, Every: -1, Room: -1, First: -1}, least},
		{api.Config{Segment: math.MinInt, Frame: math.MinInt, Plain: math.MinInt, Every: math.MinInt, Room: math.MinInt, First: math.MinInt64}, least},
		{api.Config{Frame: 57, Plain: 6}, least},
		{least, least},
		{api.Config{Segment: 2, Frame: 59, Plain: 8, Every: 2, Room: 1, First: 1}, api.Config{Segment: 2, Frame: 59, Plain: 8, Every: 2, Room: 1, First: 1}},
		{most, most},
		{api.Config{Segment: math.MaxInt, Frame: math.MaxInt, Plain: math.MaxInt, Every: math.MaxInt, Room: math.MaxInt, First: api.MostOffset - 1}, most},
		{api.Config{Segment: api.MostSegment + 1, Frame: api.MostFrame + 1, Plain: api.MostPlain + 1, Every: api.MostSegment + 1, Room: 1<<40 + 1, First: api.MostOffset - 1}, most},
		{api.Config{Segment: api.MostSegment - 1, Frame: api.MostFrame - 1, Plain: api.MostPlain - 1, Every: api.MostSegment - 1, Room: 1<<40 - 1}, api.Config{Segment: api.MostSegment - 1, Frame: api.MostFrame - 1, Plain: api.MostPlain - 1, Every: api.MostSegment - 1, Room: 1<<40 - 1}},
	} {
		l := opened(t, disk.New(1000), c.given)
		if got := l.Config(); got != c.want {
			t.Errorf("P15.2: the config of %+v is %+v", c.given, got)
		}
	}
	// A log whose files are there already has its start from them: there the first offset is told as it counts.
	d := disk.New(1000)
	opened(t, d, config())
	for _, first := range []int64{api.MostOffset, math.MaxInt64} {
		l := opened(t, d, api.Config{First: first})
		if l.Config().First != api.MostOffset || l.Start() != 5 {
			t.Errorf("P15.2: the first offset %d counts as %d, the start is %d", first, l.Config().First, l.Start())
		}
	}
}

// TestLookingChangesNothing: no file is touched or read.
func TestLookingChangesNothing(t *testing.T) {
	p := newPair(t, config())
	p.append(t, "four", single(t, 1), sent(t, 1, 0, 1), single(t, 3), sent(t, 1, 1, 2))
	files := newSpy(t, p.d)
	p.m.reopen()
	l := opened(t, files, config())
	files.took()
	ahead := snapshot(p.d)
	calls, bytes := p.d.Reads()
	l.Config()
	l.Start()
	l.End()
	l.Segments()
	l.Segment(1)
	l.Bases()
	l.Holder(7)
	l.Book()
	files.expect("P15.2: looking")
	if c, b := p.d.Reads(); c != calls || b != bytes {
		t.Errorf("P15.2: looking reads %d bytes", b-bytes)
	}
	if snapshot(p.d) != ahead {
		t.Error("P15.2: looking changes files")
	}
	p.m.expect(t, "looked at", l)
}

// TestAnswersAreNew: what is done to an answer, and to its spare room, isn't seen again.
func TestAnswersAreNew(t *testing.T) {
	p := newPair(t, config())
	p.append(t, "four", single(t, 1), sent(t, 1, 0, 1), single(t, 3), sent(t, 1, 1, 2))
	one, two := p.l.Bases(), p.l.Bases()
	for i := range one[:cap(one)] {
		one[:cap(one)][i] = -7
	}
	if !slices.Equal(two, []int64{5, 7}) {
		t.Errorf("R3: two answers share memory: %d", two)
	}
	book := p.l.Book()
	book.Forget(math.MaxInt64)
	book.Note(api.Head{Producer: 9, Count: 1})
	p.expect(t, "answers that are changed")
	kept, bases := p.l.Book(), p.l.Bases()
	p.append(t, "more", sent(t, 1, 3, 1), single(t, 1), single(t, 2))
	p.trim(t, "more", p.m.end())
	if next, _ := kept.Next(1); next != 3 || bases[0] != 5 {
		t.Errorf("R3: an answer changes later: %d, %d", next, bases)
	}
	p.expect(t, "and more")
}

// TestSegmentIsOne: of a number it is always the same segment, which goes on with the log.
func TestSegmentIsOne(t *testing.T) {
	p := newPair(t, config())
	s := p.l.Segment(0)
	p.append(t, "two", single(t, 1), single(t, 2))
	if p.l.Segment(0) != s || s.Count() != 2 {
		t.Errorf("P15.2: the segment has %d frames", s.Count())
	}
}

// TestHolderOfMany holds Holder against the bases of a log of many segments.
func TestHolderOfMany(t *testing.T) {
	c := config()
	c.Segment, c.Room = 1, 1<<20
	p := newPair(t, c)
	for i := range 100 {
		p.append(t, "many", sent(t, -1, -1, 1+i%5))
	}
	if p.l.Segments() != 100 {
		t.Fatalf("P15.3: %d segments", p.l.Segments())
	}
	p.expect(t, "many segments")
	p.trim(t, "many", p.m.parts[40].base+1)
	p.expect(t, "many segments, trimmed")
}
