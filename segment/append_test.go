package segment_test

import (
	"math"
	"strconv"
	"strings"
	"testing"

	"gantry/api"
	"gantry/batch"
	"gantry/disk"
	"gantry/segment"
)

func TestAppendCalls(t *testing.T) {
	m := sheet{10, 100, nil}
	files := newSpy(t, disk.New(10000))
	s := m.made(t, files)
	files.took()
	for i, f := range five(t) {
		if e := s.Append(f); e != api.OK {
			t.Fatalf("P13.6: Append: %d", e)
		}
		want := []string{"append log 60"}
		if i == 2 || i == 4 {
			want = append(want, "append off 16", "append tim 16")
		}
		files.expect("P13.6: Append", want...)
		m.frames = append(m.frames, f)
		m.expect(t, strconv.Itoa(i+1)+" frames", s)
	}
	if n, _ := files.Synced(logName); n != 0 {
		t.Errorf("P13.6: Append makes %d bytes safe", n)
	}
}

// TestAppendRefuses: what is refused has changed nothing, and of several errors the first is told.
func TestAppendRefuses(t *testing.T) {
	m := sheet{10, 100, five(t)}
	next, other := single(t, 15, 0), single(t, 16, 0)
	turned := []byte(next)
	turned[59] ^= 1
	wrong := string(turned)
	marked := next[:12] + "\x00" + next[13:]
	great := encoded(t, api.Batch{Base: 15, Producer: -1, Seq: -1, Records: []api.Record{{Value: some(strings.Repeat("v", 1000))}}})
	// Packed it is a small frame, with more bytes of records than are allowed.
	packed := encoded(t, api.Batch{Base: 15, Packed: true, Producer: -1, Seq: -1, Records: []api.Record{{Value: some(strings.Repeat("v", 1000))}}})
	for _, c := range []struct {
		name  string
		frame string
		want  api.Errno
	}{
		{"nothing", "", api.ErrShort},
		{"a head alone", next[:51], api.ErrShort},
		{"all but a byte", next[:59], api.ErrShort},
		{"a byte more", next + "x", api.ErrLeft},
		{"two frames", next + other, api.ErrLeft},
		{"a byte turned", wrong, api.ErrSum},
		{"a byte turned, and one more", wrong + "x", api.ErrSum},
		{"no frame", strings.Repeat("\x00", 60), api.ErrBatch},
		{"another mark", marked, api.ErrBatch},
		{"too great", great, api.ErrBig},
		{"too great when it is unpacked", packed, api.ErrBig},
		{"the last offset again", single(t, 14, 0), api.ErrOrder},
		{"an offset left out", other, api.ErrOrder},
		{"the base again", single(t, 10, 0), api.ErrOrder},
		{"the offset 0", single(t, 0, 0), api.ErrOrder},
		{"an offset left out, and a byte more", other + "x", api.ErrLeft},
	} {
		d := disk.New(10000)
		files := newSpy(t, d)
		s := m.made(t, files)
		files.took()
		ahead := snapshot(d)
		if e := s.Append(c.frame); e != c.want {
			t.Errorf("P13.6: %s: %d, want %d", c.name, e, c.want)
		}
		files.expect("P13.6: a refused Append (" + c.name + ")")
		m.expect(t, c.name, s)
		if snapshot(d) != ahead {
			t.Errorf("P13.6: %s: files are changed", c.name)
		}
		if e := s.Append(next); e != api.OK {
			t.Errorf("P13.6: %s: the next frame: %d", c.name, e)
		}
	}
}

// TestAppendFull: a frame for which there is no room is refused, at every number of bytes that are left.
func TestAppendFull(t *testing.T) {
	m := sheet{10, 100, five(t)}
	off, tim := m.whole()
	used := 300 + 64
	for left := range 61 {
		d := disk.New(used + left)
		files := newSpy(t, d)
		s := m.made(t, files)
		s.Sync()
		files.took()
		e := s.Append(single(t, 15, 99))
		if left == 60 {
			if e != api.OK || s.End() != 16 {
				t.Errorf("P13.6: Append that fills the room: %d", e)
			}
			continue
		}
		if e != api.ErrFull || d.Used() != used {
			t.Errorf("P13.6: Append with room for %d bytes: %d, used %d", left, e, d.Used())
		}
		files.expect("P13.6: Append without room", "append log 60", "cut log 300")
		m.expect(t, "full", s)
		expectFiles(t, "P13.6: full", d, 10, m.text(), off, tim)
		if n, _ := d.Synced(logName); n != 300 {
			t.Errorf("P13.6: %d bytes are safe behind a refused Append", n)
		}
		// A segment that is opened there sees nothing of it either.
		m.expect(t, "full, opened", m.opened(t, d, false))
	}
}

// TestAppendErrors: an error that layer 7 doesn't let the log file have is the answer; one of an index file is nobody's.
func TestAppendErrors(t *testing.T) {
	for _, want := range strange() {
		m := sheet{10, 50, five(t)}
		files := newSpy(t, disk.New(10000))
		s := m.made(t, files)
		files.fails["append log"] = want
		if e := s.Append(single(t, 15, 0)); e != want || s.End() != 15 {
			t.Errorf("Words: the log file's append fails by %d: %d", want, e)
		}
		files.fails["append log"], files.fails["cut log"] = api.ErrFull, want
		if e := s.Append(single(t, 15, 0)); e != want || s.End() != 15 {
			t.Errorf("Words: the log file's cut fails by %d: %d", want, e)
		}
		files.fails["append log"], files.fails["cut log"] = want, api.ErrName
		if e := s.Append(single(t, 15, 0)); e != want || s.End() != 15 {
			t.Errorf("Words: the log file's append fails by %d, and its cut too: %d", want, e)
		}
		for _, file := range []string{"off", "tim"} {
			d := disk.New(10000)
			files := newSpy(t, d)
			files.fails["append "+file] = want
			s := m.made(t, files)
			m.expect(t, "no entry is written", s)
			expectLeftOut(t, "append "+file, d, m)
			// From now on they are written again.
			files.fails["append "+file] = api.OK
			if e := s.Append(single(t, 15, 0)); e != api.OK {
				t.Errorf("P13.6: Append: %d", e)
			}
			if got, _ := content(d, "00000000000000000010."+file); len(got) != 16 {
				t.Errorf("Words: the file %s has %d bytes", file, len(got))
			}
			files.fails["append "+file], files.fails["cut "+file] = api.ErrFull, want
			if e := s.Append(single(t, 16, 0)); e != api.OK || s.End() != 17 {
				t.Errorf("Words: the cut of the file %s fails by %d: %d", file, want, e)
			}
		}
	}
}

// TestLimits: Every, Frame and Plain count as they must, in Make and in Open.
func TestLimits(t *testing.T) {
	least := encoded(t, api.Batch{Base: 10, Producer: -1, Seq: -1, Records: make([]api.Record, 1)})
	// In so long a record there are 13 bytes beside the value's: 4 for each of two lengths, and 5 for the rest.
	greatest := encoded(t, api.Batch{Base: 10, Producer: -1, Seq: -1, Records: []api.Record{{Value: some(strings.Repeat("v", api.MostFrame-51-13))}}})
	if len(least) != 58 || len(greatest) != api.MostFrame {
		t.Fatalf("the frames have %d and %d bytes", len(least), len(greatest))
	}
	wide := single(t, 10, 0)
	for _, c := range []struct {
		frame, plain int
		text         string
		want         api.Errno
	}{
		{0, 0, least, api.OK},
		{-1, math.MinInt, least, api.OK},
		{math.MinInt, -1, least, api.OK},
		{57, 6, least, api.OK},
		{58, 7, least, api.OK},
		{0, 1000, wide, api.ErrBig},
		{59, 1000, wide, api.ErrBig},
		{60, 1000, wide, api.OK},
		{1000, 0, wide, api.ErrBig},
		{1000, 8, wide, api.ErrBig},
		{1000, 9, wide, api.OK},
		{math.MaxInt, math.MaxInt, greatest, api.OK},
		{api.MostFrame, api.MostPlain, greatest, api.OK},
		{api.MostFrame - 1, api.MostPlain, greatest, api.ErrBig},
	} {
		config := api.Config{Frame: c.frame, Plain: c.plain}
		d := disk.New(1 << 25)
		s, _ := segment.Make(d, 10, config)
		if e := s.Append(c.text); e != c.want {
			t.Errorf("P13.6: Append of %d bytes by %d and %d: %d, want %d", len(c.text), c.frame, c.plain, e, c.want)
		}
		d.Cut(logName, 0)
		d.Append(logName, c.text)
		s, e := segment.Open(d, 10, config, false)
		if c.want == api.OK && (e != api.OK || s.Count() != 1) || c.want != api.OK && e != api.ErrCorrupt {
			t.Errorf("P13.2: Open of %d bytes by %d and %d: %d", len(c.text), c.frame, c.plain, e)
		}
	}
}

// TestEvery goes through all distances of entries, at their edges and beyond what they count as.
func TestEvery(t *testing.T) {
	for _, every := range []int{math.MinInt, -1, 0, 1, 2, 59, 60, 61, 119, 120, 121, 239, 240, 241, 299, 300, 301, api.MostSegment, api.MostSegment + 1, math.MaxInt} {
		m := sheet{10, every, five(t)}
		d := disk.New(10000)
		m.expect(t, "made by Every "+strconv.Itoa(every), m.made(t, d))
		off, tim := m.whole()
		expectFiles(t, "P13.6: Every "+strconv.Itoa(every), d, 10, m.text(), off, tim)
		m.expect(t, "opened by Every "+strconv.Itoa(every), m.opened(t, d, false))
		expectFiles(t, "P13.2: Every "+strconv.Itoa(every), d, 10, m.text(), off, tim)
	}
}

// TestLastOffsets: a segment may end with MostOffset, and takes nothing more then.
func TestLastOffsets(t *testing.T) {
	base := int64(api.MostOffset - 3)
	m := sheet{base, 1, []string{single(t, base, 4), encoded(t, api.Batch{Base: base + 1, Producer: -1, Seq: -1, Records: make([]api.Record, 2)})}}
	d := disk.New(10000)
	s := m.made(t, d)
	if s.End() != api.MostOffset {
		t.Errorf("P13.3: End %d", s.End())
	}
	beyond := single(t, 0, 0)
	beyond = "\x40\x00\x00\x00\x00\x00\x00\x00" + beyond[8:]
	if e := s.Append(beyond); e != api.ErrBatch {
		t.Errorf("P13.6: Append at MostOffset: %d", e)
	}
	m.expect(t, "the last offsets", s)
	m.expect(t, "the last offsets, opened", m.opened(t, d, false))
	s = sheet{base, 1, m.frames[:1]}.made(t, disk.New(10000))
	over, _ := batch.Rebase(encoded(t, api.Batch{Producer: -1, Seq: -1, Records: make([]api.Record, 3)}), base+1)
	if e := s.Append(over); e != api.ErrBatch {
		t.Errorf("P13.6: Append beyond MostOffset: %d", e)
	}
}
