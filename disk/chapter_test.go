package disk_test

import (
	"slices"
	"strings"
	"testing"

	"gantry/api"
	"gantry/disk"
)

// paper is a file as the chapter words it.
type paper struct {
	name, bytes string
	synced      int
}

// sheet is a disk as the chapter words it: its files stand in no order, and all that can be reckoned is reckoned anew at each call. A sheet that is gone is a nil disk.
type sheet struct {
	gone         bool
	room         int
	files        []paper
	calls, bytes int
}

func newSheet(room int) *sheet {
	if room < 0 {
		room = 0
	}
	if room > 1099511627776 {
		room = 1099511627776
	}
	return &sheet{room: room}
}

func (m *sheet) find(name string) *paper {
	for i := range m.files {
		if m.files[i].name == name {
			return &m.files[i]
		}
	}
	return nil
}

func (m *sheet) used() int {
	n := 0
	for _, f := range m.files {
		n += len(f.bytes)
	}
	return n
}

func (m *sheet) list() []string {
	var out []string
	for _, f := range m.files {
		out = append(out, f.name)
	}
	slices.Sort(out)
	return out
}

func (m *sheet) size(name string) (int, api.Errno) {
	f := m.find(name)
	if f == nil {
		return 0, api.ErrNone
	}
	return len(f.bytes), api.OK
}

func (m *sheet) syncedOf(name string) (int, api.Errno) {
	f := m.find(name)
	if f == nil {
		return 0, api.ErrNone
	}
	return f.synced, api.OK
}

// beyond tells whether at + n is above the length, neither of them being below 0.
func beyond(at, n, length int) bool { return uint64(at)+uint64(n) > uint64(length) }

func (m *sheet) read(name string, at, n int) (string, api.Errno) {
	f := m.find(name)
	if f == nil {
		return "", api.ErrNone
	}
	if at < 0 || n < 0 || beyond(at, n, len(f.bytes)) {
		return "", api.ErrRange
	}
	m.calls++
	m.bytes += n
	return f.bytes[at : at+n], api.OK
}

func (m *sheet) create(name string) api.Errno {
	if len(name) < 1 || len(name) > 255 || m.find(name) != nil {
		return api.ErrName
	}
	if m.gone {
		return api.ErrFull
	}
	if len(m.files) == 65536 {
		return api.ErrMost
	}
	m.files = append(m.files, paper{name: name})
	return api.OK
}

func (m *sheet) append(name, data string) (int, api.Errno) {
	f := m.find(name)
	if f == nil {
		return 0, api.ErrNone
	}
	n := 0
	for n < len(data) && m.used() < m.room && len(f.bytes) < 1073741824 {
		f.bytes += data[n : n+1]
		n++
	}
	if n < len(data) {
		return n, api.ErrFull
	}
	return n, api.OK
}

func (m *sheet) cut(name string, size int) api.Errno {
	f := m.find(name)
	if f == nil {
		return api.ErrNone
	}
	if size < 0 || size > len(f.bytes) {
		return api.ErrRange
	}
	f.bytes = f.bytes[:size]
	if f.synced > size {
		f.synced = size
	}
	return api.OK
}

func (m *sheet) sync(name string) api.Errno {
	f := m.find(name)
	if f == nil {
		return api.ErrNone
	}
	f.synced = len(f.bytes)
	return api.OK
}

func (m *sheet) remove(name string) api.Errno {
	if m.find(name) == nil {
		return api.ErrNone
	}
	m.files = slices.DeleteFunc(m.files, func(f paper) bool { return f.name == name })
	return api.OK
}

func (m *sheet) overwrite(name string, at int, data string) api.Errno {
	f := m.find(name)
	if f == nil {
		return api.ErrNone
	}
	if at < 0 || beyond(at, len(data), len(f.bytes)) {
		return api.ErrRange
	}
	f.bytes = f.bytes[:at] + data + f.bytes[at+len(data):]
	return api.OK
}

func (m *sheet) clone() *sheet {
	twin := *m
	twin.files = slices.Clone(m.files)
	return &twin
}

// mustBe holds all that a disk tells against what its sheet tells, and the bytes of all files. The reading is done to both, so that the counts go on alike.
func mustBe(t *testing.T, d *disk.Disk, m *sheet) {
	t.Helper()
	mustLook(t, d, m)
	for _, f := range m.list() {
		n, _ := m.size(f)
		want, _ := m.read(f, 0, n)
		if s, e := d.Read(f, 0, n); s != want || e != api.OK {
			t.Fatalf("P7.2: %q has %q (%d), not %q", f, s, e, want)
		}
	}
	mustLook(t, d, m)
}

func mustLook(t *testing.T, d *disk.Disk, m *sheet) {
	t.Helper()
	if d.Room() != m.room || d.Used() != m.used() {
		t.Fatalf("P7.1: the room %d, not %d; used %d, not %d", d.Room(), m.room, d.Used(), m.used())
	}
	if l := d.List(); !slices.Equal(l, m.list()) {
		t.Fatalf("P7.1: List is %q, not %q", l, m.list())
	}
	for _, name := range append(m.list(), "nobody's", "", strings.Repeat("x", 256)) {
		size, e := d.Size(name)
		if want, f := m.size(name); size != want || e != f {
			t.Fatalf("P7.1: Size of %q is %d (%d), not %d (%d)", name, size, e, want, f)
		}
		synced, e := d.Synced(name)
		if want, f := m.syncedOf(name); synced != want || e != f {
			t.Fatalf("P7.1: Synced of %q is %d (%d), not %d (%d)", name, synced, e, want, f)
		}
	}
	if calls, bytes := d.Reads(); calls != m.calls || bytes != m.bytes {
		t.Fatalf("P7.2: Reads are %d, %d, not %d, %d", calls, bytes, m.calls, m.bytes)
	}
}

// pair is a disk and its sheet, which are asked the same.
type pair struct {
	d *disk.Disk
	m *sheet
}

func newPair(room int) pair { return pair{disk.New(room), newSheet(room)} }

func (p pair) create(t *testing.T, name string) {
	t.Helper()
	want := p.m.create(name)
	if e := p.d.Create(name); e != want {
		t.Fatalf("P7.3: Create(%q) answers %d, not %d", name, e, want)
	}
}

func (p pair) append(t *testing.T, name, data string) {
	t.Helper()
	want, f := p.m.append(name, data)
	if n, e := p.d.Append(name, data); n != want || e != f {
		t.Fatalf("P7.4: Append(%q, %q) answers %d (%d), not %d (%d)", name, data, n, e, want, f)
	}
}

func (p pair) cut(t *testing.T, name string, size int) {
	t.Helper()
	want := p.m.cut(name, size)
	if e := p.d.Cut(name, size); e != want {
		t.Fatalf("P7.5: Cut(%q, %d) answers %d, not %d", name, size, e, want)
	}
}

func (p pair) sync(t *testing.T, name string) {
	t.Helper()
	want := p.m.sync(name)
	if e := p.d.Sync(name); e != want {
		t.Fatalf("P7.5: Sync(%q) answers %d, not %d", name, e, want)
	}
}

func (p pair) remove(t *testing.T, name string) {
	t.Helper()
	want := p.m.remove(name)
	if e := p.d.Remove(name); e != want {
		t.Fatalf("P7.5: Remove(%q) answers %d, not %d", name, e, want)
	}
}

func (p pair) overwrite(t *testing.T, name string, at int, data string) {
	t.Helper()
	want := p.m.overwrite(name, at, data)
	if e := p.d.Overwrite(name, at, data); e != want {
		t.Fatalf("P7.6: Overwrite(%q, %d, %q) answers %d, not %d", name, at, data, e, want)
	}
}

func (p pair) read(t *testing.T, name string, at, n int) {
	t.Helper()
	want, f := p.m.read(name, at, n)
	if s, e := p.d.Read(name, at, n); s != want || e != f {
		t.Fatalf("P7.2: Read(%q, %d, %d) answers %q (%d), not %q (%d)", name, at, n, s, e, want, f)
	}
}

func (p pair) clone() pair { return pair{p.d.Clone(), p.m.clone()} }
