package seek_test

import (
	"math"
	"math/bits"
	"slices"
	"strconv"
	"strings"
	"testing"

	"gantry/api"
	"gantry/batch"
	"gantry/disk"
	"gantry/names"
	"gantry/plog"
	"gantry/record"
	"gantry/scan"
	"gantry/seek"
)

// piece is a frame as it stands in a log: its bytes, its batch, its segment and place.
type piece struct {
	text        string
	batch       api.Batch
	segment, at int
}

func (p piece) end() int64 { return p.batch.Base + int64(len(p.batch.Records)) }

func (p piece) hit() seek.Hit {
	h, _ := batch.Peek(p.text)
	return seek.Hit{Head: h, Segment: p.segment, At: p.at}
}

// flat is all frames of a log one behind the other: whatever is asked is found by going through them from the first on.
type flat struct {
	c          api.Config
	pieces     []piece
	start, end int64
	entries    []int // of each segment's offset index
	greatest   int   // the bytes of the greatest frame
}

// flatOf takes the frames from the log files themselves, and counts the index entries by DOC.md's words.
func flatOf(t *testing.T, d *disk.Disk, c api.Config) flat {
	t.Helper()
	m := flat{c: c}
	segments, _ := names.Group(d.List())
	for n, s := range segments {
		text := content(d, nameOf(s.Base, names.Log))
		list, end, e := scan.All(text, s.Base, c.Frame, c.Plain)
		if end != len(text) || e != api.OK {
			t.Fatalf("the log file %d isn't frames alone: %d", s.Base, e)
		}
		if n == 0 {
			m.start = s.Base
		}
		m.end = s.Base
		entries, last := 0, 0
		for _, f := range list {
			if f.At-last >= c.Every {
				entries, last = entries+1, f.At
			}
			b, _, _ := batch.Decode(text[f.At:], c.Frame, c.Plain)
			m.pieces = append(m.pieces, piece{text[f.At : f.At+f.Length], b, n, f.At})
			m.end = batch.Behind(f.Head)
			m.greatest = max(m.greatest, f.Length)
		}
		m.entries = append(m.entries, entries)
	}
	return m
}

// holder answers the number of the piece that has the offset, -1 where none has.
func (m flat) holder(offset int64) int {
	return slices.IndexFunc(m.pieces, func(p piece) bool { return offset >= p.batch.Base && offset < p.end() })
}

func (m flat) find(offset int64) (seek.Hit, api.Errno) {
	n := m.holder(offset)
	if n < 0 {
		return seek.Hit{}, api.ErrOffset
	}
	return m.pieces[n].hit(), api.OK
}

func (m flat) fetch(offset int64, most int) (string, api.Errno) {
	if offset < m.start || offset > m.end {
		return "", api.ErrOffset
	}
	if offset == m.end {
		return "", api.OK
	}
	rest := m.pieces[m.holder(offset):]
	var text strings.Builder
	for i, p := range rest {
		if i > 0 && text.Len()+len(p.text) > most {
			break
		}
		text.WriteString(p.text)
	}
	return text.String(), api.OK
}

func (m flat) time(t int64) (int64, api.Errno) {
	for _, p := range m.pieces {
		for i, r := range p.batch.Records {
			if r.Time >= t {
				return p.batch.Base + int64(i), api.OK
			}
		}
	}
	return 0, api.ErrNone
}

func (m flat) rows(offset int64, count int) ([]seek.Row, api.Errno) {
	if offset < m.start || offset > m.end {
		return nil, api.ErrOffset
	}
	if count < 0 {
		return nil, api.ErrRange
	}
	var rows []seek.Row
	for _, p := range m.pieces {
		for i, r := range p.batch.Records {
			if o := p.batch.Base + int64(i); o >= offset && len(rows) < count {
				rows = append(rows, seek.Row{Offset: o, Record: r})
			}
		}
	}
	return rows, api.OK
}

// offsets answers all offsets that are worth asking for.
func (m flat) offsets() []int64 {
	list := []int64{math.MinInt64, -1, 0, 1, api.MostOffset - 1, api.MostOffset, math.MaxInt64}
	for o := m.start - 2; o <= m.end+2; o++ {
		list = append(list, o)
	}
	return list
}

// times answers all times that are worth asking for: those of records, those beside them, and the ends of all numbers.
func (m flat) times() []int64 {
	list := []int64{math.MinInt64, math.MinInt64 + 1, 0, math.MaxInt64 - 1, math.MaxInt64}
	for _, p := range m.pieces {
		for _, r := range p.batch.Records {
			list = append(list, r.Time)
			if r.Time > math.MinInt64 && r.Time < math.MaxInt64 {
				list = append(list, r.Time-1, r.Time+1)
			}
		}
	}
	slices.Sort(list)
	return slices.Compact(list)
}

// mosts answers numbers of bytes at which a fetch from the offset gets one frame more, the next lesser and greater ones, and the ends of all numbers.
func (m flat) mosts(offset int64) []int {
	list := []int{math.MinInt, -1, 0, 1, math.MaxInt - 1, math.MaxInt}
	sum := 0
	for _, p := range m.pieces[max(m.holder(offset), 0):] {
		sum += len(p.text)
		list = append(list, sum-1, sum, sum+1)
		if len(list) > 21 {
			break
		}
	}
	return list
}

// meter takes the bytes that a call reads, as the disk counts them.
func meter(d *disk.Disk, call func()) int {
	_, ahead := d.Reads()
	call()
	_, behind := d.Reads()
	return behind - ahead
}

// probes answers how often an index of n entries may be asked.
func probes(n int) int {
	if n == 0 {
		return 0
	}
	return 2 + bits.Len(uint(n)) - 1
}

// mostProbes answers how often the index of the segment that has the most entries may be asked.
func (m flat) mostProbes() int { return probes(slices.Max(m.entries)) }

// expectCost holds a meter against what it may be, by P16.6: reach is what stands in the bound beside Every and the greatest frame, and indexes how many are asked.
func (m flat) expectCost(t *testing.T, name string, got api.Meter, read, reach, indexes int) {
	t.Helper()
	most := 2*(m.c.Every+m.greatest) + 256
	// Without wrapping: a reach may be any number.
	if got.Bytes > most && (got.Bytes-most+1)/2 > reach {
		t.Errorf("P16.6: %s reads %d bytes", name, got.Bytes)
	}
	if got.Probes < 0 || got.Probes > indexes*m.mostProbes() {
		t.Errorf("P16.6: %s looks at %d entries of %d", name, got.Probes, m.entries)
	}
	if got.Bytes != read {
		t.Errorf("P16.6: %s tells %d bytes and has read %d", name, got.Bytes, read)
	}
}

// expectNoCost: beside an error, and at the end, the meter is zero.
func expectNoCost(t *testing.T, name string, got api.Meter, read int) {
	t.Helper()
	if got != (api.Meter{}) || read != 0 {
		t.Errorf("P16.6: %s costs %+v, and reads %d bytes", name, got, read)
	}
}

func (m flat) expectFind(t *testing.T, name string, l *plog.Log, d *disk.Disk) {
	t.Helper()
	for _, o := range m.offsets() {
		var hit seek.Hit
		var cost api.Meter
		var e api.Errno
		read := meter(d, func() { hit, cost, e = seek.Find(l, o) })
		name := name + ": Find(" + strconv.FormatInt(o, 10) + ")"
		if want, why := m.find(o); hit != want || e != why {
			t.Errorf("P16.1: %s: %+v, %d, want %+v, %d", name, hit, e, want, why)
		}
		if e != api.OK {
			expectNoCost(t, name, cost, read)
			continue
		}
		m.expectCost(t, name, cost, read, m.greatest, 1)
		if n := m.entries[hit.Segment]; cost.Probes > probes(n) {
			t.Errorf("P16.6: %s looks at %d of %d entries", name, cost.Probes, n)
		}
	}
}

func (m flat) expectFetch(t *testing.T, name string, l *plog.Log, d *disk.Disk, offsets ...int64) {
	t.Helper()
	for _, o := range offsets {
		for _, most := range m.mosts(o) {
			var text string
			var cost api.Meter
			var e api.Errno
			read := meter(d, func() { text, cost, e = seek.Fetched(l, o, most) })
			name := name + ": Fetch(" + strconv.FormatInt(o, 10) + ", " + strconv.Itoa(most) + ")"
			want, why := m.fetch(o, most)
			if text != want || e != why {
				t.Errorf("P16.2: %s: %d bytes, %d, want %d, %d", name, len(text), e, len(want), why)
			}
			if again, e := seek.Fetch(l, o, most); again != want || e != why {
				t.Errorf("P16.2: %s, without a meter: %d bytes, %d, want %d, %d", name, len(again), e, len(want), why)
			}
			if want == "" {
				expectNoCost(t, name, cost, read)
				continue
			}
			m.expectCost(t, name, cost, read, max(most, m.greatest), 1)
			if n := m.entries[m.pieces[m.holder(o)].segment]; cost.Probes > probes(n) {
				t.Errorf("P16.6: %s looks at %d of %d entries", name, cost.Probes, n)
			}
		}
	}
}

func (m flat) expectTime(t *testing.T, name string, l *plog.Log, d *disk.Disk) {
	t.Helper()
	for _, at := range m.times() {
		var offset int64
		var cost api.Meter
		var e api.Errno
		read := meter(d, func() { offset, cost, e = seek.Timed(l, at) })
		name := name + ": Time(" + strconv.FormatInt(at, 10) + ")"
		want, why := m.time(at)
		if offset != want || e != why {
			t.Errorf("P16.3: %s: %d, %d, want %d, %d", name, offset, e, want, why)
		}
		if again, e := seek.Time(l, at); again != want || e != why {
			t.Errorf("P16.3: %s, without a meter: %d, %d, want %d, %d", name, again, e, want, why)
		}
		if why != api.OK {
			expectNoCost(t, name, cost, read)
			continue
		}
		m.expectCost(t, name, cost, read, m.greatest, 2)
	}
}

func (m flat) expectRows(t *testing.T, name string, l *plog.Log, counts ...int) {
	t.Helper()
	for _, o := range m.offsets() {
		for _, count := range append(counts, math.MinInt, -1, 0, 1, 2, 3, 7, math.MaxInt) {
			rows, e := seek.Rows(l, o, count)
			if want, why := m.rows(o, count); !slices.EqualFunc(rows, want, sameRow) || e != why {
				t.Errorf("P16.4: %s: Rows(%d, %d): %+v, %d, want %+v, %d", name, o, count, rows, e, want, why)
			}
		}
	}
}

func sameRow(a, b seek.Row) bool { return a.Offset == b.Offset && record.Same(a.Record, b.Record) }

func (m flat) hits() []seek.Hit {
	var hits []seek.Hit
	for _, p := range m.pieces {
		hits = append(hits, p.hit())
	}
	return hits
}

func (m flat) expectWalk(t *testing.T, name string, l *plog.Log) {
	t.Helper()
	if got := slices.Collect(seek.Walk(l)); !slices.Equal(got, m.hits()) {
		t.Errorf("P16.5: %s: Walk: %+v, want %+v", name, got, m.hits())
	}
}

// expect holds all calls against what a walk through the log files finds.
func expect(t *testing.T, name string, l *plog.Log, d *disk.Disk) {
	t.Helper()
	m := flatOf(t, d, l.Config())
	if m.start != l.Start() || m.end != l.End() {
		t.Fatalf("%s: from %d to %d by its files, from %d to %d by the log", name, m.start, m.end, l.Start(), l.End())
	}
	ahead := snapshot(d)
	m.expectFind(t, name, l, d)
	m.expectFetch(t, name, l, d, m.offsets()...)
	m.expectTime(t, name, l, d)
	m.expectRows(t, name, l)
	m.expectWalk(t, name, l)
	if snapshot(d) != ahead {
		t.Errorf("%s: the files are changed", name)
	}
}

func nameOf(base int64, kind names.Kind) string {
	name, _ := names.Name(base, kind)
	return name
}

func content(d *disk.Disk, name string) string {
	size, _ := d.Size(name)
	s, _ := d.Read(name, 0, size)
	return s
}

// snapshot tells all of a disk: its files' names, bytes and what is safe of them.
func snapshot(d *disk.Disk) string {
	var out strings.Builder
	for _, name := range d.List() {
		s := content(d, name)
		synced, _ := d.Synced(name)
		out.WriteString(name + " " + s[:synced] + "|" + s[synced:] + "\n")
	}
	return out.String()
}

func some(data string) api.Opt { return api.Opt{Has: true, Data: data} }

func encoded(t *testing.T, b api.Batch) string {
	t.Helper()
	s, e := batch.Encode(b)
	if e != api.OK {
		t.Fatalf("Encode: %d", e)
	}
	return s
}

// timed answers a frame of 70 bytes, without a producer, whose records have these times.
func timed(t *testing.T, times ...int64) string {
	t.Helper()
	b := api.Batch{Producer: -1, Seq: -1}
	for _, at := range times {
		b.Records = append(b.Records, api.Record{Time: at})
	}
	size, _ := batch.Size(b)
	b.Records[0].Value = some(strings.Repeat("v", 70-size))
	f := encoded(t, b)
	if len(f) != 70 {
		t.Fatalf("the frame has %d bytes", len(f))
	}
	return f
}

// sized answers a frame of some more than so many bytes with one record.
func sized(t *testing.T, bytes int, time int64) string {
	t.Helper()
	r := api.Record{Time: time, Value: some(strings.Repeat("v", bytes-58))}
	return encoded(t, api.Batch{Producer: -1, Seq: -1, Records: []api.Record{r}})
}

func config() api.Config {
	return api.Config{Segment: 150, Frame: 500, Plain: 500, Every: 60, Room: 1 << 20, First: 5}
}

func opened(t *testing.T, files disk.Files, c api.Config) *plog.Log {
	t.Helper()
	l, e := plog.Open(files, c)
	if l == nil || e != api.OK {
		t.Fatalf("Open: %d", e)
	}
	return l
}

func add(t *testing.T, l *plog.Log, frames ...string) {
	t.Helper()
	for _, f := range frames {
		if _, _, e := l.Append(f); e != api.OK {
			t.Fatalf("Append: %d", e)
		}
	}
}

// logOf answers a log with these frames, and its disk.
func logOf(t *testing.T, c api.Config, frames ...string) (*plog.Log, *disk.Disk) {
	t.Helper()
	d := disk.New(c.Room)
	l := opened(t, d, c)
	add(t, l, frames...)
	return l, d
}
