package scan_test

import (
	"math"
	"runtime"
	"strings"
	"testing"

	"gantry/api"
	"gantry/disk"
	"gantry/scan"
)

func expectRefused(t *testing.T, name string, files disk.Files, file string, want api.Errno) {
	t.Helper()
	if list, end, e := scan.File(files, file, 5, 1000, 1000); len(list) != 0 || end != 0 || e != want {
		t.Errorf("P12.3: %s: %+v, %d, %d, want %d", name, list, end, e, want)
	}
}

func TestFileNone(t *testing.T) {
	f, g := pair(t)
	expectRefused(t, "nil files", nil, "f", api.ErrNone)
	var gone *disk.Disk
	expectRefused(t, "a nil disk", gone, "f", api.ErrNone)
	expectRefused(t, "the zero disk", &disk.Disk{}, "f", api.ErrNone)
	for _, name := range []string{"", "F", "f ", "ff", strings.Repeat("f", 256)} {
		expectRefused(t, "no such file", onDisk(f+g), name, api.ErrNone)
	}
}

// broken is files that answer an error for the size, or for a read.
type broken struct {
	disk.Files
	size, read api.Errno
	failing    int // which read fails, from 0 on
	calls      *int
}

func (b broken) Size(name string) (int, api.Errno) {
	if b.size != api.OK {
		return 128, b.size
	}
	return b.Files.Size(name)
}

func (b broken) Read(name string, at, n int) (string, api.Errno) {
	s, e := b.Files.Read(name, at, n)
	*b.calls++
	if *b.calls == b.failing+1 {
		return s, b.read
	}
	return s, e
}

// TestFileErrors: whatever error files answers, for the size or for any read, is the answer, without frames.
func TestFileErrors(t *testing.T) {
	f, g := pair(t)
	for _, src := range []string{f + g, f + g[:10], f + turned(g, 57, 1), f + f, f + g + "x"} {
		calls := 0
		scan.File(broken{Files: onDisk(src), failing: -1, calls: &calls}, "f", 5, 1000, 1000)
		if calls == 0 {
			t.Fatal("P12.3: nothing is read")
		}
		all := calls
		for _, e := range []api.Errno{api.ErrNone, api.ErrRange, api.ErrShort, api.ErrSum, api.ErrOrder, api.ErrClosed, -1, 1000} {
			expectRefused(t, "no size", broken{Files: onDisk(src), size: e, calls: new(int)}, "f", e)
			for n := range all {
				expectRefused(t, "a read fails", broken{Files: onDisk(src), read: e, failing: n, calls: new(int)}, "f", e)
			}
		}
	}
}

// lying is files that tell another size, or hand out other bytes, than the file has.
type lying struct {
	disk.Files
	size func(int) int
	read func(string) string
}

func (l lying) Size(name string) (int, api.Errno) {
	n, e := l.Files.Size(name)
	return l.size(n), e
}

func (l lying) Read(name string, at, n int) (string, api.Errno) {
	s, e := l.Files.Read(name, at, n)
	return l.read(s), e
}

// TestFileOfOtherSize: the size alone tells which bytes are asked for.
func TestFileOfOtherSize(t *testing.T) {
	f, g := pair(t)
	same := func(s string) string { return s }
	for n := range f + g {
		files := lying{onDisk(f + g), func(int) int { return n }, same}
		want, at, why := running((f + g)[:n], 5, 1000, 1000)
		list, end, e := scan.File(files, "f", 5, 1000, 1000)
		if len(list) != len(want) || end != at || e != why {
			t.Errorf("P12.3: of the size %d: %+v, %d, %d", n, list, end, e)
		}
	}
	for _, more := range []int{1, 10, 51, 1 << 30, math.MaxInt - 128} {
		expectRefused(t, "more bytes than there are", lying{onDisk(f + g), func(n int) int { return n + more }, same}, "f", api.ErrRange)
	}
	for _, n := range []int{-1, math.MinInt} {
		expectRefused(t, "a size below 0", lying{onDisk(f + g), func(int) int { return n }, same}, "f", api.OK)
	}
}

// TestFileOfOtherBytes: files that don't keep layer 7's words are answered something, without a panic and without frames that aren't there.
func TestFileOfOtherBytes(t *testing.T) {
	f, g := pair(t)
	for _, read := range []func(string) string{
		func(string) string { return "" },
		func(s string) string { return s[:len(s)/2] },
		func(s string) string { return s[:max(len(s), 1)-1] },
		func(s string) string { return s + s },
		func(string) string { return f + g },
		func(string) string { return g },
	} {
		files := lying{onDisk(f + g), func(n int) int { return n }, read}
		if list, _, _ := scan.File(files, "f", 5, 1000, 1000); len(list) > 2 {
			t.Errorf("P12.3: %+v", list)
		}
	}
}

// TestFileReads: a head that nothing bears out, or that is too great, makes File read no more than heads.
func TestFileReads(t *testing.T) {
	f, g := pair(t)
	filler := strings.Repeat("\x00", 5000)
	claim := func(length string) string { return g[:8] + length + g[12:] }
	for _, c := range []struct {
		name string
		src  string
		most int
	}{
		{"no frame", filler, 51},
		{"a frame too great", claim("\x00\x00\x07\x00") + filler, 51},
		{"a frame beyond the end", claim("\x00\x00\x03\x00"), 58},
		{"one frame, and none", f + filler, 70 + 2*51},
		{"one frame, and one too great", f + claim("\x00\x00\x07\x00") + filler, 70 + 2*51},
	} {
		expectRun(t, c.name, c.src, 5, 1000, 1000)
		watch := &guard{Files: onDisk(c.src), t: t}
		scan.File(watch, "f", 5, 1000, 1000)
		if watch.bytes > c.most {
			t.Errorf("P12.3: %s: %d bytes are read, of which %d at once", c.name, watch.bytes, watch.greatest)
		}
	}
}

// scale is files that weigh what is held in memory each time they are read.
type scale struct {
	disk.Files
	most uint64
}

func held() uint64 {
	runtime.GC()
	var m runtime.MemStats
	runtime.ReadMemStats(&m)
	return m.HeapAlloc
}

func (s *scale) Read(name string, at, n int) (string, api.Errno) {
	data, e := s.Files.Read(name, at, n)
	s.most = max(s.most, held())
	return data, e
}

// TestFileHolds weighs what File holds of a file of many great frames.
func TestFileHolds(t *testing.T) {
	const count = 40
	d := disk.New(64 << 20)
	d.Create("f")
	size := 0
	for n := range count {
		s := encoded(t, api.Batch{Base: int64(n), Producer: -1, Seq: -1, Records: []api.Record{{Value: some(strings.Repeat("v", 1<<20))}}})
		d.Append("f", s)
		size = len(s)
	}
	s := &scale{Files: d}
	ahead := held()
	list, end, e := scan.File(s, "f", 0, api.MostFrame, api.MostPlain)
	if len(list) != count || end != count*size || e != api.OK {
		t.Fatalf("P12.3: %d frames, %d, %d", len(list), end, e)
	}
	if s.most > ahead+4*uint64(size) {
		t.Errorf("P12.3: %d bytes are held, and a frame has %d", s.most-ahead, size)
	}
	if _, bytes := d.Reads(); bytes > 16*(count*size+51) {
		t.Errorf("P12.3: %d bytes are read", bytes)
	}
	runtime.KeepAlive(d)
}

// TestFileGreatest: a frame of the most bytes that there may be, behind another.
func TestFileGreatest(t *testing.T) {
	g := least(t, 0, 1)
	// Beside so long a value its record has 13 bytes: 4 for each of two lengths, and 5 for the rest.
	value := strings.Repeat("v", api.MostFrame-51-13)
	src := g + encoded(t, api.Batch{Base: 1, Producer: -1, Seq: -1, Records: []api.Record{{Value: some(value)}}})
	if len(src) != 58+api.MostFrame {
		t.Fatalf("the frame has %d bytes", len(src)-58)
	}
	expectEnd(t, "the greatest", src+g, 0, 2, api.ErrOrder)
	if n, e := expectRun(t, "greater by one", src, 0, api.MostFrame-1, api.MostPlain); n != 1 || e != api.ErrBig {
		t.Errorf("P12.3: %d frames, %d", n, e)
	}
}
