package plog_test

import (
	"math"
	"slices"
	"strings"
	"testing"

	"gantry/api"
	"gantry/batch"
	"gantry/disk"
	"gantry/names"
	"gantry/offidx"
	"gantry/plog"
	"gantry/producer"
	"gantry/segment"
)

// part is what a segment must have by the document's words: its frames, and what its files hold of them.
type part struct {
	base     int64
	frames   []string
	off, tim string
	synced   int
}

func (p part) text() string { return strings.Join(p.frames, "") }

func (p part) heads() []api.Head {
	var heads []api.Head
	for _, f := range p.frames {
		h, _ := batch.Peek(f)
		heads = append(heads, h)
	}
	return heads
}

func (p part) end() int64 {
	end := p.base
	for _, h := range p.heads() {
		end += int64(h.Count)
	}
	return end
}

// sheet is what a log and its files must be by the document's words: lists of frames, from which all else is found by going through them. Its config is one whose numbers count as they are.
type sheet struct {
	c     api.Config
	parts []part
}

func newSheet(c api.Config) *sheet { return &sheet{c, []part{{base: c.First}}} }

func (m *sheet) clone() *sheet {
	twin := &sheet{m.c, slices.Clone(m.parts)}
	for i := range twin.parts {
		twin.parts[i].frames = slices.Clone(twin.parts[i].frames)
	}
	return twin
}

func (m *sheet) last() *part { return &m.parts[len(m.parts)-1] }

func (m *sheet) end() int64 { return m.last().end() }

func (m *sheet) heads() []api.Head {
	var heads []api.Head
	for _, p := range m.parts {
		heads = append(heads, p.heads()...)
	}
	return heads
}

func (m *sheet) left() int {
	left := m.c.Room
	for _, p := range m.parts {
		left -= len(p.text()) + len(p.off) + len(p.tim)
	}
	return left
}

// enter gives the index files the entries of a part's frame number n, if it has any, each as far as there is room.
func (m *sheet) enter(p *part, n int) {
	at, q, late := 0, 0, int64(math.MinInt64)
	for i, h := range p.heads() {
		due := at-q >= m.c.Every
		if due {
			q = at
		}
		if i == n && due && m.left() >= 16 {
			p.off += offidx.Put(api.Entry{Key: h.Base - p.base, At: int64(at)})
		}
		if i == n && due && m.left() >= 16 {
			p.tim += offidx.Put(api.Entry{Key: late, At: h.Base - p.base})
		}
		at += h.Length
		late = max(late, h.Greatest)
	}
}

// append does what Append must, for a frame that layer 6 takes; names never run out here.
func (m *sheet) append(frame string) (int64, bool, api.Errno) {
	h, _ := batch.Peek(frame)
	base, e := producer.Of(m.heads()).Check(h.Producer, h.Seq, h.Count)
	switch e {
	case api.ErrDouble:
		return base, true, api.OK
	case api.ErrGap, api.ErrStale:
		return 0, false, e
	}
	end := m.end()
	if uint64(end)+uint64(h.Count) > api.MostOffset {
		return 0, false, api.ErrOver
	}
	if m.left() < len(frame) {
		return 0, false, api.ErrFull
	}
	frame, _ = batch.Rebase(frame, end)
	if p := m.last(); len(p.frames) > 0 && len(p.text())+len(frame) > m.c.Segment {
		p.synced = len(p.text())
		m.parts = append(m.parts, part{base: end})
	}
	p := m.last()
	p.frames = append(p.frames, frame)
	m.enter(p, len(p.frames)-1)
	return end, false, api.OK
}

func (m *sheet) flush() { m.last().synced = len(m.last().text()) }

func (m *sheet) trim(offset int64) (int64, api.Errno) {
	if offset < 0 || offset > m.end() {
		return 0, api.ErrOffset
	}
	for len(m.parts) > 1 && m.parts[0].end() <= offset {
		m.parts = m.parts[1:]
	}
	return m.parts[0].base, api.OK
}

// reopen is what opening makes of the same log files.
func (m *sheet) reopen() {
	for i := range m.parts {
		m.parts[i].off, m.parts[i].tim = "", ""
	}
	for i := range m.parts {
		p := &m.parts[i]
		p.synced = len(p.text())
		for n := range p.frames {
			m.enter(p, n)
		}
	}
}

// expect holds all that looking tells of a log against the sheet.
func (m *sheet) expect(t *testing.T, name string, l *plog.Log) {
	t.Helper()
	if l.Config() != m.c {
		t.Errorf("P15.2: %s: the config is %+v", name, l.Config())
	}
	var bases []int64
	for _, p := range m.parts {
		bases = append(bases, p.base)
	}
	if l.Start() != bases[0] || l.End() != m.end() || l.Segments() != len(bases) || !slices.Equal(l.Bases(), bases) {
		t.Errorf("P15.2: %s: from %d to %d, %d segments %d, want %d to %d, %d", name, l.Start(), l.End(), l.Segments(), l.Bases(), bases[0], m.end(), bases)
	}
	for _, i := range []int{math.MinInt, -1, len(bases), len(bases) + 1, math.MaxInt} {
		if l.Segment(i) != nil {
			t.Errorf("P15.2: %s: there is a segment %d", name, i)
		}
	}
	m.expectHolders(t, name, l)
	expectBook(t, name, l.Book(), producer.Of(m.heads()))
	for i, p := range m.parts {
		m.expectSegment(t, name, l.Segment(i), p)
	}
}

func (m *sheet) expectHolders(t *testing.T, name string, l *plog.Log) {
	t.Helper()
	offsets := []int64{math.MinInt64, -1, 0, api.MostOffset - 1, api.MostOffset, math.MaxInt64}
	for o := m.parts[0].base - 2; o < m.end()+2; o++ {
		offsets = append(offsets, o)
	}
	for _, o := range offsets {
		want, has := 0, false
		for i, p := range m.parts {
			if p.base <= o && o < p.end() {
				want, has = i, true
			}
		}
		if n, ok := l.Holder(o); n != want || ok != has {
			t.Errorf("P15.2: %s: Holder(%d): %d, %t, want %d, %t", name, o, n, ok, want, has)
		}
	}
}

func expectBook(t *testing.T, name string, got, want *producer.Book) {
	t.Helper()
	if got == nil || !slices.Equal(got.Producers(), want.Producers()) {
		t.Errorf("P15.2: %s: producers %d, want %d", name, got.Producers(), want.Producers())
	}
	for _, p := range want.Producers() {
		if !slices.Equal(got.Batches(p), want.Batches(p)) {
			t.Errorf("P15.2: %s: batches of %d: %+v, want %+v", name, p, got.Batches(p), want.Batches(p))
		}
	}
}

// expectSegment holds a segment against layer 13's of the same frames upon a disk of its own.
func (m *sheet) expectSegment(t *testing.T, name string, s *segment.Segment, p part) {
	t.Helper()
	twin, _ := segment.Make(disk.New(1<<30), p.base, m.c)
	for _, f := range p.frames {
		if e := twin.Append(f); e != api.OK {
			t.Fatalf("%s: the sheet has a frame that isn't right: %d", name, e)
		}
	}
	if s.Base() != p.base || s.End() != twin.End() || s.Size() != twin.Size() || s.Count() != twin.Count() {
		t.Errorf("P15.6: %s: base %d, end %d, size %d, count %d", name, s.Base(), s.End(), s.Size(), s.Count())
	}
	late, has := s.Greatest()
	if want, ok := twin.Greatest(); late != want || has != ok {
		t.Errorf("P15.6: %s: greatest %d, %t, want %d, %t", name, late, has, want, ok)
	}
	if !slices.Equal(s.Offsets(), twin.Offsets()) || !slices.Equal(s.Times(), twin.Times()) {
		t.Errorf("P15.6: %s: entries %d, %d, want %d, %d", name, s.Offsets(), s.Times(), twin.Offsets(), twin.Times())
	}
	for o := p.base - 1; o < p.base+9; o++ {
		at, n := s.Place(o)
		if a, looks := twin.Place(o); at != a || n != looks {
			t.Errorf("P15.6: %s: Place(%d): %d, %d", name, o, at, n)
		}
		at, n = s.PlaceTime(o)
		if a, looks := twin.PlaceTime(o); at != a || n != looks {
			t.Errorf("P15.6: %s: PlaceTime(%d): %d, %d", name, o, at, n)
		}
	}
	if got, e := s.Read(0, s.Size()); got != p.text() || e != api.OK {
		t.Errorf("P15.6: %s: %d bytes are read, %d", name, len(got), e)
	}
}

// expectFiles holds the disk's files against the sheet: their names, but for strays, their bytes, and what is safe of log files.
func (m *sheet) expectFiles(t *testing.T, name string, d *disk.Disk, strays ...string) {
	t.Helper()
	want := slices.Clone(strays)
	for _, p := range m.parts {
		for kind, text := range []string{p.text(), p.off, p.tim} {
			file := nameOf(p.base, names.Kind(kind))
			want = append(want, file)
			if got := content(d, file); got != text {
				t.Errorf("%s: %s has %d bytes, want %d", name, file, len(got), len(text))
			}
		}
		if n, _ := d.Synced(nameOf(p.base, names.Log)); n != p.synced {
			t.Errorf("%s: %d bytes of the segment %d are safe, want %d", name, n, p.base, p.synced)
		}
	}
	slices.Sort(want)
	if !slices.Equal(d.List(), want) {
		t.Errorf("%s: the files are\n%s, want\n%s", name, d.List(), want)
	}
}

func nameOf(base int64, kind names.Kind) string {
	name, _ := names.Name(base, kind)
	return name
}

func content(d *disk.Disk, name string) string {
	size, _ := d.Size(name)
	s, _ := d.Read(name, 0, size)
	return s
}

// snapshot tells all of a disk: its files' names, bytes and what is safe of them.
func snapshot(d *disk.Disk) string {
	var out strings.Builder
	for _, name := range d.List() {
		s := content(d, name)
		synced, _ := d.Synced(name)
		out.WriteString(name + " " + s[:synced] + "|" + s[synced:] + "\n")
	}
	return out.String()
}

// put lays a file down, of whose bytes none are safe.
func put(d *disk.Disk, name, data string) {
	d.Create(name)
	d.Append(name, data)
}

func some(data string) api.Opt { return api.Opt{Has: true, Data: data} }

func encoded(t *testing.T, b api.Batch) string {
	t.Helper()
	s, e := batch.Encode(b)
	if e != api.OK {
		t.Fatalf("Encode: %d", e)
	}
	return s
}

func rebased(t *testing.T, frame string, base int64) string {
	t.Helper()
	s, e := batch.Rebase(frame, base)
	if e != api.OK {
		t.Fatalf("Rebase: %d", e)
	}
	return s
}

// single answers a frame of 60 bytes with one record, without a producer, as one is sent.
func single(t *testing.T, time int64) string {
	t.Helper()
	return encoded(t, api.Batch{Producer: -1, Seq: -1, Records: []api.Record{{Time: time, Value: some("vv")}}})
}

// sized answers a frame of that many bytes with one record, without a producer.
func sized(t *testing.T, bytes int) string {
	t.Helper()
	for n := max(bytes-64, 0); n <= bytes-58; n++ {
		// Where a length takes a byte more one size is left out, which a key makes up for.
		for _, key := range []api.Opt{{}, some("k")} {
			r := api.Record{Key: key, Value: some(strings.Repeat("v", n))}
			if f := encoded(t, api.Batch{Producer: -1, Seq: -1, Records: []api.Record{r}}); len(f) == bytes {
				return f
			}
		}
	}
	t.Fatalf("there is no frame of %d bytes", bytes)
	return ""
}

// sent answers a frame of a producer's batch, with so many records.
func sent(t *testing.T, producer int64, seq int32, count int) string {
	t.Helper()
	return encoded(t, api.Batch{Producer: producer, Seq: seq, Records: make([]api.Record, count)})
}

func config() api.Config {
	return api.Config{Segment: 130, Frame: 1000, Plain: 1000, Every: 50, Room: 10000, First: 5}
}

// opened answers the log that Open answers.
func opened(t *testing.T, files disk.Files, c api.Config) *plog.Log {
	t.Helper()
	l, e := plog.Open(files, c)
	if l == nil || e != api.OK {
		t.Fatalf("P15.1: Open: %d", e)
	}
	return l
}

// pair is a log and its sheet, to which the same is done.
type pair struct {
	l *plog.Log
	m *sheet
	d *disk.Disk
}

func newPair(t *testing.T, c api.Config) *pair {
	t.Helper()
	d := disk.New(c.Room)
	return &pair{opened(t, d, c), newSheet(c), d}
}

// append appends frames of which layer 6 takes each.
func (p *pair) append(t *testing.T, name string, frames ...string) {
	t.Helper()
	for i, f := range frames {
		base, double, e := p.l.Append(f)
		if b, d, want := p.m.append(f); base != b || double != d || e != want {
			t.Errorf("P15.3: %s: Append %d: %d, %t, %d, want %d, %t, %d", name, i, base, double, e, b, d, want)
		}
	}
}

func (p *pair) flush(t *testing.T, name string) {
	t.Helper()
	p.m.flush()
	if end, e := p.l.Flush(); end != p.m.end() || e != api.OK {
		t.Errorf("P15.4: %s: Flush: %d, %d, want %d", name, end, e, p.m.end())
	}
}

func (p *pair) trim(t *testing.T, name string, offset int64) {
	t.Helper()
	start, e := p.l.Trim(offset)
	if want, why := p.m.trim(offset); start != want || e != why {
		t.Errorf("P15.5: %s: Trim(%d): %d, %d, want %d, %d", name, offset, start, e, want, why)
	}
}

func (p *pair) reopen(t *testing.T) {
	t.Helper()
	p.m.reopen()
	p.l = opened(t, p.d, p.m.c)
}

func (p *pair) expect(t *testing.T, name string, strays ...string) {
	t.Helper()
	p.m.expect(t, name, p.l)
	p.m.expectFiles(t, name, p.d, strays...)
}
