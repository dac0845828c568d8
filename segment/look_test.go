package segment_test

import (
	"math"
	"slices"
	"strconv"
	"testing"

	"gantry/api"
	"gantry/disk"
	"gantry/segment"
)

// TestLookingChangesNothing: nothing is read but what Read and Head are asked for, and no file is touched.
func TestLookingChangesNothing(t *testing.T) {
	m := sheet{10, 100, five(t)}
	d := disk.New(10000)
	files := newSpy(t, d)
	s := m.made(t, files)
	files.took()
	ahead := snapshot(d)
	calls, bytes := d.Reads()
	expect := func(name string, moreCalls, moreBytes int) {
		t.Helper()
		calls, bytes = calls+moreCalls, bytes+moreBytes
		if c, b := d.Reads(); c != calls || b != bytes {
			t.Errorf("P13.5: %s reads %d bytes by %d calls more than it should", name, b-bytes, c-calls)
		}
	}
	s.Base()
	s.End()
	s.Size()
	s.Count()
	s.Greatest()
	s.Offsets()
	s.Times()
	s.Place(13)
	s.PlaceTime(13)
	expect("looking", 0, 0)
	s.Read(60, 60)
	expect("Read", 1, 60)
	s.Read(60, 0)
	expect("Read of nothing", 1, 0)
	s.Read(60, 241)
	expect("Read beyond the end", 0, 0)
	s.Head(60)
	expect("Head", 1, 51)
	s.Head(250)
	expect("Head beyond the end", 0, 0)
	files.expect("P13.3: looking")
	if snapshot(d) != ahead {
		t.Error("P13.3: looking changes files")
	}
	m.expect(t, "looked at", s)
}

// TestListsAreNew: what is done to the lists of an answer, and to their spare room, isn't seen again.
func TestListsAreNew(t *testing.T) {
	m := sheet{10, 50, five(t)}
	s := m.made(t, disk.New(10000))
	for _, answer := range []func() []api.Entry{s.Offsets, s.Times} {
		list, other := answer(), answer()
		kept := slices.Clone(list)
		spare := list[:cap(list)]
		for i := range spare {
			spare[i] = api.Entry{Key: -7, At: -7}
		}
		if !slices.Equal(other, kept) {
			t.Errorf("R3: two answers share memory")
		}
		m.expect(t, "lists that are written over", s)
	}
	first := s.Offsets()
	held := slices.Clone(first)
	s.Append(single(t, 15, 0))
	if !slices.Equal(first, held) {
		t.Errorf("R3: an answer changes later: %d", first)
	}
	m.frames = append(m.frames, single(t, 15, 0))
	m.expect(t, "and one more", s)
}

// TestLogPart: what stands in the log file behind the frames isn't the segment's.
func TestLogPart(t *testing.T) {
	m := sheet{10, 100, five(t)}
	d := disk.New(10000)
	s := m.made(t, d)
	d.Append(logName, "and more")
	if got, e := s.Read(240, 61); got != "" || e != api.ErrRange {
		t.Errorf("P13.5: Read beyond Size: %d bytes, %d", len(got), e)
	}
	if _, e := s.Head(250); e != api.ErrRange {
		t.Errorf("P13.5: Head beyond Size: %d", e)
	}
}

func TestReadErrors(t *testing.T) {
	m := sheet{10, 100, five(t)}
	for _, want := range strange() {
		files := newSpy(t, disk.New(10000))
		s := m.made(t, files)
		files.fails["read log"] = want
		if got, e := s.Read(0, 60); got != "" || e != want {
			t.Errorf("P13.5: Read fails by %d: %d bytes, %d", want, len(got), e)
		}
		if h, e := s.Head(0); h != (api.Head{}) || e != want {
			t.Errorf("P13.5: Head fails by %d: %+v, %d", want, h, e)
		}
	}
}

// TestTimes: the greatest times of batches whose records' times stand in any order, at the ends of all numbers too.
func TestTimes(t *testing.T) {
	rows := [][][]int64{
		{{math.MinInt64}, {math.MinInt64}, {math.MinInt64 + 1}, {0}},
		{{-5}, {-9}, {-7}, {-6}},
		{{math.MaxInt64}, {0}, {math.MinInt64}},
		{{3, 8, 1}, {2}, {8, 9}, {9}, {4, 4}},
		{{0}, {0}, {0}},
		{{-1}},
	}
	for i, row := range rows {
		m := sheet{10, 1, nil}
		for _, times := range row {
			b := api.Batch{Base: m.end(), Producer: -1, Seq: -1}
			for _, time := range times {
				b.Records = append(b.Records, api.Record{Time: time})
			}
			m.frames = append(m.frames, encoded(t, b))
			d := disk.New(10000)
			m.expect(t, "times "+strconv.Itoa(i), m.made(t, d))
			m.expect(t, "times "+strconv.Itoa(i)+", opened", m.opened(t, d, false))
		}
	}
}

func TestSync(t *testing.T) {
	m := sheet{10, 100, five(t)}
	d := disk.New(10000)
	files := newSpy(t, d)
	s := m.made(t, files)
	files.took()
	if e := s.Sync(); e != api.OK {
		t.Errorf("P13.7: Sync: %d", e)
	}
	files.expect("P13.7: Sync", "sync log")
	if n, _ := d.Synced(logName); n != 300 {
		t.Errorf("P13.7: %d bytes are safe", n)
	}
	m.expect(t, "synced", s)
	s.Append(single(t, 15, 0))
	if n, _ := d.Synced(logName); n != 300 {
		t.Errorf("P13.7: %d bytes are safe ahead of the next Sync", n)
	}
	for _, want := range strange() {
		files.fails["sync log"] = want
		if e := s.Sync(); e != want {
			t.Errorf("Words: Sync fails by %d: %d", want, e)
		}
	}
}

// TestRemove removes a segment with some of its index files gone, and nothing else.
func TestRemove(t *testing.T) {
	m := sheet{10, 100, five(t)}
	for set := range 4 {
		d := disk.New(10000)
		d.Create("stray")
		d.Create("00000000000000000011.log")
		files := newSpy(t, d)
		s := m.made(t, files)
		if set&1 == 1 {
			d.Remove(offName)
		}
		if set&2 == 2 {
			d.Remove(timName)
		}
		files.took()
		if e := s.Remove(); e != api.OK {
			t.Errorf("P13.7: Remove: %d", e)
		}
		files.expect("P13.7: Remove", "remove log", "remove off", "remove tim")
		if left := d.List(); !slices.Equal(left, []string{"00000000000000000011.log", "stray"}) || d.Used() != 0 {
			t.Errorf("P13.7: Remove leaves %s", left)
		}
		if again, e := segment.Make(d, 10, config(100)); again == nil || e != api.OK {
			t.Errorf("P13.1: Make behind Remove: %d", e)
		}
	}
}

func TestRemoveErrors(t *testing.T) {
	m := sheet{10, 100, five(t)}
	for _, want := range strange() {
		d := disk.New(10000)
		files := newSpy(t, d)
		s := m.made(t, files)
		ahead := snapshot(d)
		files.fails["remove log"] = want
		if e := s.Remove(); e != want || snapshot(d) != ahead {
			t.Errorf("R6: Remove fails by %d: %d", want, e)
		}
		files.fails = map[string]api.Errno{"remove off": want, "remove tim": want}
		if e := s.Remove(); e != api.OK {
			t.Errorf("P13.7: index files that can't be removed by %d: %d", want, e)
		}
		if _, ok := content(d, logName); ok {
			t.Error("P13.7: the log file is there behind Remove")
		}
	}
}

// TestBehindRemove: of a segment that was removed nothing is promised but that its calls end.
func TestBehindRemove(t *testing.T) {
	d := disk.New(10000)
	s := sheet{10, 100, five(t)}.made(t, d)
	s.Remove()
	s.Append(single(t, 15, 0))
	s.Read(0, 60)
	s.Head(0)
	s.Sync()
	s.Remove()
	if len(d.List()) != 0 {
		t.Errorf("P13.7: the files %s are there", d.List())
	}
}
