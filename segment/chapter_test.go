package segment_test

import (
	"math"
	"math/bits"
	"slices"
	"strings"
	"testing"

	"gantry/api"
	"gantry/batch"
	"gantry/disk"
	"gantry/names"
	"gantry/offidx"
	"gantry/segment"
	"gantry/timeidx"
)

const (
	logName = "00000000000000000010.log"
	offName = "00000000000000000010.off"
	timName = "00000000000000000010.tim"
)

func config(every int) api.Config { return api.Config{Every: every, Frame: 1000, Plain: 1000} }

func encoded(t *testing.T, b api.Batch) string {
	t.Helper()
	s, e := batch.Encode(b)
	if e != api.OK {
		t.Fatalf("Encode: %d", e)
	}
	return s
}

// single answers a frame of 60 bytes with one record.
func single(t *testing.T, base, time int64) string {
	t.Helper()
	return encoded(t, api.Batch{Base: base, Producer: -1, Seq: -1, Records: []api.Record{{Time: time, Value: api.Opt{Has: true, Data: "vv"}}}})
}

// five answers the frames of the chapter's example.
func five(t *testing.T) []string {
	t.Helper()
	var frames []string
	for i, time := range []int64{5, 9, 7, 20, 1} {
		frames = append(frames, single(t, 10+int64(i), time))
	}
	return frames
}

// sheet is what a segment must be by the document's words: a list of frames, from which all else is found by going through them.
type sheet struct {
	base   int64
	every  int
	frames []string
}

func (m sheet) text() string { return strings.Join(m.frames, "") }

func (m sheet) batches() []api.Batch {
	var out []api.Batch
	for _, f := range m.frames {
		b, _, _ := batch.Decode(f, api.MostFrame, api.MostPlain)
		out = append(out, b)
	}
	return out
}

func (m sheet) at(n int) int { return len(strings.Join(m.frames[:n], "")) }

func (m sheet) end() int64 {
	end := m.base
	for _, b := range m.batches() {
		end += int64(len(b.Records))
	}
	return end
}

func latest(batches []api.Batch) (int64, bool) {
	out, ok := int64(math.MinInt64), false
	for _, b := range batches {
		for _, r := range b.Records {
			out, ok = max(out, r.Time), true
		}
	}
	if !ok {
		return 0, false
	}
	return out, true
}

// entered answers the numbers of the frames that have an entry.
func (m sheet) entered() []int {
	var out []int
	for n := range m.frames {
		q := 0
		if len(out) > 0 {
			q = m.at(out[len(out)-1])
		}
		if m.at(n)-q >= max(m.every, 1) {
			out = append(out, n)
		}
	}
	return out
}

func (m sheet) entries() (offsets, times []api.Entry) {
	batches := m.batches()
	for _, n := range m.entered() {
		time, _ := latest(batches[:n])
		key := batches[n].Base - m.base
		offsets = append(offsets, api.Entry{Key: key, At: int64(m.at(n))})
		times = append(times, api.Entry{Key: time, At: key})
	}
	return offsets, times
}

// indexes answers layers 10 and 11's indexes of the entries: how many of them are looked at is those layers' business.
func (m sheet) indexes() (*offidx.Index, *timeidx.Index) {
	offsets, times := m.entries()
	x, y := offidx.New(), timeidx.New()
	for i := range offsets {
		x.Add(offsets[i])
		y.Append(times[i])
	}
	return x, y
}

// expect holds all that looking tells against the sheet.
func (m sheet) expect(t *testing.T, name string, s *segment.Segment) {
	t.Helper()
	if s.Base() != m.base || s.End() != m.end() || s.Size() != len(m.text()) || s.Count() != len(m.frames) {
		t.Errorf("P13.3: %s: base %d, end %d, size %d, count %d", name, s.Base(), s.End(), s.Size(), s.Count())
	}
	want, has := latest(m.batches())
	if g, ok := s.Greatest(); g != want || ok != has {
		t.Errorf("P13.3: %s: greatest %d, %t, want %d, %t", name, g, ok, want, has)
	}
	offsets, times := m.entries()
	if !slices.Equal(s.Offsets(), offsets) || !slices.Equal(s.Times(), times) {
		t.Errorf("P13.3: %s: offsets %d, times %d, want %d, %d", name, s.Offsets(), s.Times(), offsets, times)
	}
	m.expectPlaces(t, name, s)
	m.expectTimes(t, name, s)
	m.expectBytes(t, name, s)
}

func (m sheet) expectPlaces(t *testing.T, name string, s *segment.Segment) {
	t.Helper()
	x, _ := m.indexes()
	offsets := []int64{math.MinInt64, math.MinInt64 + m.base, -1, 0, api.MostOffset, math.MaxInt64}
	for o := m.base - 2; o < m.end()+3; o++ {
		offsets = append(offsets, o)
	}
	batches := m.batches()
	entered := m.entered()
	for _, o := range offsets {
		want := 0
		for _, n := range entered {
			if batches[n].Base <= o {
				want = m.at(n)
			}
		}
		// The least key that there is stands for all offsets ahead of the base: the difference of some is no int64.
		key := int64(-1)
		if o >= m.base {
			key = o - m.base
		}
		_, _, looks := x.Find(key)
		at, n := s.Place(o)
		if at != want || n != looks || !fewLooks(n, x.Len()) {
			t.Errorf("P13.4: %s: Place(%d): %d, %d, want %d, %d", name, o, at, n, want, looks)
		}
		for i, b := range batches {
			if b.Base <= o && o < b.Base+int64(len(b.Records)) && (m.at(i) < at || m.at(i)-at >= max(m.every, 1)) {
				t.Errorf("P13.4: %s: Place(%d) is %d, and the frame is at %d", name, o, at, m.at(i))
			}
		}
	}
}

func (m sheet) expectTimes(t *testing.T, name string, s *segment.Segment) {
	t.Helper()
	x, y := m.indexes()
	offsets, times := m.entries()
	batches := m.batches()
	asked := []int64{math.MinInt64, math.MinInt64 + 1, 0, math.MaxInt64 - 1, math.MaxInt64}
	for _, e := range times {
		asked = append(asked, e.Key-1, e.Key, e.Key+1)
	}
	for _, time := range asked {
		want := 0
		for i, e := range times {
			if e.Key < time {
				want = int(offsets[i].At)
			}
		}
		entry, looks, ok := y.Find(time)
		if ok {
			_, _, more := x.Find(entry.At)
			looks += more
		}
		at, n := s.PlaceTime(time)
		if at != want || n != looks {
			t.Errorf("P13.4: %s: PlaceTime(%d): %d, %d, want %d, %d", name, time, at, n, want, looks)
		}
		for i, b := range batches {
			if late, _ := latest([]api.Batch{b}); m.at(i) < at && late >= time {
				t.Errorf("P13.4: %s: PlaceTime(%d) is %d, and the frame at %d is as late as %d", name, time, at, m.at(i), late)
			}
		}
	}
}

func fewLooks(n, entries int) bool {
	if entries == 0 {
		return n == 0
	}
	return 1 <= n && n <= 2+bits.Len(uint(entries))-1
}

func (m sheet) expectBytes(t *testing.T, name string, s *segment.Segment) {
	t.Helper()
	text := m.text()
	for i, f := range m.frames {
		if got, e := s.Read(m.at(i), len(f)); got != f || e != api.OK {
			t.Errorf("P13.5: %s: Read of frame %d: %q, %d", name, i, got, e)
		}
	}
	for _, at := range places(len(text)) {
		want, why := api.Head{}, api.ErrRange
		if at >= 0 && at <= len(text)-api.HeadSize {
			want, why = batch.Peek(text[at : at+api.HeadSize])
		}
		if h, e := s.Head(at); h != want || e != why {
			t.Errorf("P13.5: %s: Head(%d): %+v, %d, want %+v, %d", name, at, h, e, want, why)
		}
		for _, n := range places(len(text)) {
			want, why := "", api.ErrRange
			if at >= 0 && n >= 0 && at <= len(text) && n <= len(text)-at {
				want, why = text[at:at+n], api.OK
			}
			if got, e := s.Read(at, n); got != want || e != why {
				t.Errorf("P13.5: %s: Read(%d, %d): %d bytes, %d, want %d, %d", name, at, n, len(got), e, len(want), why)
			}
		}
	}
}

// places answers some places of so many bytes, at their edges and outside.
func places(size int) []int {
	return []int{math.MinInt, -size - 1, -1, 0, 1, 51, size / 2, size - 52, size - 51, size - 50, size - 1, size, size + 1, math.MaxInt - size, math.MaxInt}
}

// content answers the bytes of a file, and whether it is there.
func content(d *disk.Disk, name string) (string, bool) {
	size, e := d.Size(name)
	s, _ := d.Read(name, 0, size)
	return s, e == api.OK
}

// snapshot tells all of a disk: its files' names, bytes and what is safe of them.
func snapshot(d *disk.Disk) string {
	var out strings.Builder
	for _, name := range d.List() {
		s, _ := content(d, name)
		synced, _ := d.Synced(name)
		out.WriteString(name + " " + s[:synced] + "|" + s[synced:] + "\n")
	}
	return out.String()
}

// expectFiles holds the three files' bytes against those that they should have.
func expectFiles(t *testing.T, name string, d *disk.Disk, base int64, log, off, tim string) {
	t.Helper()
	for kind, want := range []string{log, off, tim} {
		file, _ := names.Name(base, names.Kind(kind))
		if got, ok := content(d, file); got != want || !ok {
			t.Errorf("%s: %s has %d bytes (%t), want %d: %q, %q", name, file, len(got), ok, len(want), got, want)
		}
	}
}

// whole answers the index files' bytes where there is room for all entries.
func (m sheet) whole() (off, tim string) {
	offsets, times := m.entries()
	return offidx.Put(offsets...), offidx.Put(times...)
}

// made answers a segment that has appended the sheet's frames.
func (m sheet) made(t *testing.T, files disk.Files) *segment.Segment {
	t.Helper()
	s, e := segment.Make(files, m.base, config(m.every))
	if s == nil || e != api.OK {
		t.Fatalf("P13.1: Make: %d", e)
	}
	for i, f := range m.frames {
		if e := s.Append(f); e != api.OK {
			t.Fatalf("P13.6: Append of frame %d: %d", i, e)
		}
	}
	return s
}

// opened answers the segment that Open answers for the log file.
func (m sheet) opened(t *testing.T, files disk.Files, last bool) *segment.Segment {
	t.Helper()
	s, e := segment.Open(files, m.base, config(m.every), last)
	if s == nil || e != api.OK {
		t.Fatalf("P13.2: Open: %d", e)
	}
	return s
}

// TestExamples is the chapter's examples, number by number.
func TestExamples(t *testing.T) {
	m := sheet{10, 100, five(t)}
	d := disk.New(10000)
	s := m.made(t, d)
	if got := s.Offsets(); !slices.Equal(got, []api.Entry{{Key: 2, At: 120}, {Key: 4, At: 240}}) {
		t.Errorf("P13.8: offsets %d", got)
	}
	if got := s.Times(); !slices.Equal(got, []api.Entry{{Key: 9, At: 2}, {Key: 20, At: 4}}) {
		t.Errorf("P13.8: times %d", got)
	}
	for _, c := range []struct {
		offset int64
		at     int
	}{{11, 0}, {12, 120}, {13, 120}, {99, 240}} {
		if at, _ := s.Place(c.offset); at != c.at {
			t.Errorf("P13.4: Place(%d): %d", c.offset, at)
		}
	}
	for _, c := range []struct {
		time int64
		at   int
	}{{9, 0}, {10, 120}, {21, 240}} {
		if at, _ := s.PlaceTime(c.time); at != c.at {
			t.Errorf("P13.4: PlaceTime(%d): %d", c.time, at)
		}
	}
	if g, ok := s.Greatest(); g != 20 || !ok {
		t.Errorf("P13.3: Greatest: %d, %t", g, ok)
	}
	if e := s.Append(single(t, 14, 0)); e != api.ErrOrder {
		t.Errorf("P13.6: Append at 14: %d", e)
	}
	m.expect(t, "the example", s)
	if e := s.Append(single(t, 15, 0)); e != api.OK || s.End() != 16 || s.Size() != 360 || len(s.Offsets()) != 2 || len(s.Times()) != 2 {
		t.Errorf("P13.6: Append at 15: %d, end %d, size %d, offsets %d", e, s.End(), s.Size(), s.Offsets())
	}
	m.frames = append(m.frames, single(t, 15, 0))
	m.expect(t, "the example and one more", s)
	off, tim := m.whole()
	expectFiles(t, "the example and one more", d, 10, m.text(), off, tim)
}
