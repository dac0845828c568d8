package plog_test

import (
	"math"
	"strconv"
	"strings"
	"testing"

	"gantry/api"
	"gantry/disk"
)

// turned answers frame with a bit of its byte at that place turned.
func turned(frame string, at int) string {
	b := []byte(frame)
	b[at] ^= 1
	return string(b)
}

// known answers a log with some batches of the producer 4: of the sequences 0 to 2, 3, 4 and 5, at the offsets 5, 8, 10 and 11, and one without a producer between.
func known(t *testing.T, c api.Config) *pair {
	t.Helper()
	p := newPair(t, c)
	p.append(t, "known", sent(t, 4, 0, 3), sent(t, 4, 3, 1), single(t, 0), sent(t, 4, 4, 1), sent(t, 4, 5, 1))
	return p
}

// TestAppendRefuses: what is refused has changed nothing, and of several errors the first is told.
func TestAppendRefuses(t *testing.T) {
	f, gap := single(t, 0), sent(t, 4, 9, 1)
	great := []api.Record{{Value: some(strings.Repeat("v", 1100))}}
	for _, c := range []struct {
		name  string
		frame string
		want  api.Errno
	}{
		{"nothing", "", api.ErrShort},
		{"a head alone", f[:51], api.ErrShort},
		{"all but a byte", f[:59], api.ErrShort},
		{"no frame", strings.Repeat("\x00", 60), api.ErrBatch},
		{"a byte turned", turned(f, 59), api.ErrSum},
		{"a byte turned, a base offset and a byte more", rebased(t, turned(f, 59), 7) + "x", api.ErrSum},
		{"too great", encoded(t, api.Batch{Producer: -1, Seq: -1, Records: great}), api.ErrBig},
		{"too great when it is unpacked", encoded(t, api.Batch{Packed: true, Producer: -1, Seq: -1, Records: great}), api.ErrBig},
		{"a byte more", f + "x", api.ErrLeft},
		{"two frames", f + f, api.ErrLeft},
		{"a byte more, and a base offset", rebased(t, f, 7) + "x", api.ErrLeft},
		{"a byte more, and a gap", gap + "x", api.ErrLeft},
		{"a base offset", rebased(t, f, 7), api.ErrBatch},
		{"the end as base offset", rebased(t, f, 12), api.ErrBatch},
		{"a base offset, and a gap", rebased(t, gap, 1), api.ErrBatch},
		{"a base offset, and there already", rebased(t, sent(t, 4, 5, 1), 1), api.ErrBatch},
		{"a gap", gap, api.ErrGap},
		{"a gap of one", sent(t, 4, 7, 1), api.ErrGap},
		{"a gap of half the round", sent(t, 4, 6+1<<30-1, 1), api.ErrGap},
		{"stale by half the round", sent(t, 4, 6+1<<30, 1), api.ErrStale},
		{"stale, with another count", sent(t, 4, 5, 2), api.ErrStale},
		{"stale, from between", sent(t, 4, 1, 1), api.ErrStale},
		{"stale, the last sequence", sent(t, 4, math.MaxInt32, 1), api.ErrStale},
	} {
		p := known(t, config())
		ahead := snapshot(p.d)
		if base, double, e := p.l.Append(c.frame); base != 0 || double || e != c.want {
			t.Errorf("P15.3: %s: %d, %t, %d, want %d", c.name, base, double, e, c.want)
		}
		if snapshot(p.d) != ahead {
			t.Errorf("P15.3: %s: files are changed", c.name)
		}
		p.expect(t, "P15.3: "+c.name)
		p.append(t, c.name+", and the next", sent(t, 4, 6, 1))
		p.expect(t, "P15.3: "+c.name+", and the next")
	}
}

// TestAppendDouble: a batch that comes again is told its offset, as long as it is one of the last five, and changes nothing.
func TestAppendDouble(t *testing.T) {
	p := newPair(t, config())
	for i := range int32(9) {
		p.append(t, "new", sent(t, 4, 2*i, 2), single(t, 0), sent(t, 7, i, 1))
	}
	p.expect(t, "P15.3: many batches")
	ahead := snapshot(p.d)
	for i := range int32(9) {
		base, double, e := p.l.Append(sent(t, 4, 2*i, 2))
		if i < 4 && (base != 0 || double || e != api.ErrStale) {
			t.Errorf("P15.3: the sequence %d, forgotten: %d, %t, %d", 2*i, base, double, e)
		}
		if want := 5 + 4*int64(i); i >= 4 && (base != want || !double || e != api.OK) {
			t.Errorf("P15.3: the sequence %d again: %d, %t, %d, want %d", 2*i, base, double, e, want)
		}
	}
	// Other bytes of the same sequence and count are that batch too.
	other := encoded(t, api.Batch{Producer: 4, Seq: 16, Packed: true, Records: []api.Record{{Time: 9}, {Time: 1}}})
	if base, double, e := p.l.Append(other); base != 37 || !double || e != api.OK {
		t.Errorf("P15.3: other records again: %d, %t, %d", base, double, e)
	}
	if snapshot(p.d) != ahead {
		t.Error("P15.3: a batch that comes again changes files")
	}
	p.expect(t, "P15.3: many batches again")
}

// TestAppendDoubleOnFullDisk: a batch that is there needs no room and no offsets.
func TestAppendDoubleOnFullDisk(t *testing.T) {
	c := config()
	f := sent(t, 4, 0, 2)
	c.Room, c.First = len(f), api.MostOffset-2
	p := newPair(t, c)
	p.append(t, "the last offsets", f, f)
	if base, double, e := p.l.Append(f); base != api.MostOffset-2 || !double || e != api.OK {
		t.Errorf("P15.3: again: %d, %t, %d", base, double, e)
	}
	if base, double, e := p.l.Append(sent(t, 4, 9, 2)); base != 0 || double || e != api.ErrGap {
		t.Errorf("P15.3: ErrGap is told ahead of ErrOver: %d, %t, %d", base, double, e)
	}
	if base, double, e := p.l.Append(sent(t, 4, 2, 2)); base != 0 || double || e != api.ErrOver {
		t.Errorf("P15.3: ErrOver is told ahead of ErrFull: %d, %t, %d", base, double, e)
	}
	p.expect(t, "P15.3: full of room and offsets")
}

// TestAppendSequences: sequences go round, and any is taken of a producer that isn't known.
func TestAppendSequences(t *testing.T) {
	p := newPair(t, config())
	p.append(t, "round", sent(t, 1, math.MaxInt32, 2), sent(t, 1, 1, 1), sent(t, 1, math.MaxInt32, 2), sent(t, 0, 77, 1), sent(t, math.MaxInt64, 5, 1))
	for producer, want := range map[int64]int32{1: 2, 0: 78, math.MaxInt64: 6} {
		if next, ok := p.l.Book().Next(producer); next != want || !ok {
			t.Errorf("P15.3: the next of %d: %d, %t", producer, next, ok)
		}
	}
	p.expect(t, "P15.3: sequences")
}

// TestAppendOver: offsets go up to MostOffset, which is none.
func TestAppendOver(t *testing.T) {
	for left := range int64(5) {
		for count := 1; count < 6; count++ {
			for _, segment := range []int{1, 1000} {
				c := config()
				c.First, c.Segment = api.MostOffset-left-1, segment
				p := newPair(t, c)
				p.append(t, "the first", single(t, 0))
				ahead := snapshot(p.d)
				base, double, e := p.l.Append(sent(t, 3, 0, count))
				if over := int64(count) > left; over != (e == api.ErrOver) || over && (base != 0 || double || snapshot(p.d) != ahead) {
					t.Errorf("P15.3: %d records with place for %d: %d, %t, %d", count, left, base, double, e)
				}
				p.m.append(sent(t, 3, 0, count))
				p.expect(t, "P15.3: the last offsets")
				p.reopen(t)
				p.expect(t, "P15.3: the last offsets, opened")
			}
		}
	}
}

// TestAppendKinds: batches packed and plain, of one record and of many, get their offsets in order.
func TestAppendKinds(t *testing.T) {
	c := config()
	c.Frame, c.Plain, c.Room, c.Segment = 1<<20, 1<<20, 1<<20, 5000
	p := newPair(t, c)
	for _, packed := range []bool{false, true} {
		for _, n := range []int{1, 2, 100, 3000} {
			records := make([]api.Record, n)
			for i := range records {
				records[i] = api.Record{Time: int64(i % 7), Key: some(strconv.Itoa(i)), Headers: []api.Header{{Key: "h"}}}
			}
			p.append(t, "kinds", encoded(t, api.Batch{Packed: packed, Producer: -1, Seq: -1, Records: records}))
		}
	}
	if p.l.End() != 5+2*3103 {
		t.Errorf("P15.3: the end is %d", p.l.End())
	}
	p.expect(t, "P15.3: kinds")
}

// TestAppendLimits: the config's Frame and Plain are the most that is taken.
func TestAppendLimits(t *testing.T) {
	for _, c := range []struct {
		frame, plain int
		want         api.Errno
	}{
		{0, 0, api.ErrBig}, {59, 1000, api.ErrBig}, {60, 1000, api.OK}, {1000, 8, api.ErrBig}, {1000, 9, api.OK}, {math.MaxInt, math.MaxInt, api.OK},
	} {
		config := api.Config{Frame: c.frame, Plain: c.plain}
		l := opened(t, disk.New(1000), config)
		if _, _, e := l.Append(single(t, 0)); e != c.want {
			t.Errorf("P15.3: a frame of 60 bytes by %d and %d: %d", c.frame, c.plain, e)
		}
		least := encoded(t, api.Batch{Producer: -1, Seq: -1, Records: make([]api.Record, 1)})
		if _, _, e := l.Append(least); e != api.OK {
			t.Errorf("P15.3: the least frame by %d and %d: %d", c.frame, c.plain, e)
		}
	}
}

// TestAppendErrors: where the log file's append fails, the frame isn't in the log.
func TestAppendErrors(t *testing.T) {
	for _, want := range append(strange(), api.ErrFull) {
		p := newPair(t, config())
		p.append(t, "one", single(t, 1))
		files := newSpy(t, p.d)
		l := opened(t, files, config())
		files.fails["append 5.log"] = want
		if base, double, e := l.Append(sent(t, 4, 0, 1)); base != 0 || double || e != want {
			t.Errorf("P15.3: the append fails by %d: %d, %t, %d", want, base, double, e)
		}
		p.m.expect(t, "an append that failed", l)
	}
}
