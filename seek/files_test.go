package seek_test

import (
	"strings"
	"testing"

	"gantry/api"
	"gantry/disk"
	"gantry/plog"
	"gantry/seek"
)

// failing is files that answer so many reads as they should, and all further ones by an error.
type failing struct {
	*disk.Disk
	left int
	why  api.Errno
}

func (f *failing) Read(name string, at, n int) (string, api.Errno) {
	if f.left--; f.left < 0 {
		return "", f.why
	}
	return f.Disk.Read(name, at, n)
}

// strange is errors that layer 7 doesn't answer for a read within a file, or never answers at all; some have another meaning in this layer.
func strange() []api.Errno {
	return []api.Errno{api.ErrRange, api.ErrNone, api.ErrFull, api.ErrMost, api.ErrShort, api.ErrOrder, api.ErrOffset, api.ErrCorrupt, -1, 1000}
}

// calls are all calls that tell errors, in the middle of seven's log; each answers what it tells beside the error.
func calls(l *plog.Log) map[string]func() (bool, api.Errno) {
	return map[string]func() (bool, api.Errno){
		"Find": func() (bool, api.Errno) {
			h, m, e := seek.Find(l, 8)
			return h == seek.Hit{} && m == api.Meter{}, e
		},
		"Fetch": func() (bool, api.Errno) {
			s, e := seek.Fetch(l, 8, 280)
			return s == "", e
		},
		"Fetched": func() (bool, api.Errno) {
			s, m, e := seek.Fetched(l, 8, 280)
			return s == "" && m == api.Meter{}, e
		},
		"Time": func() (bool, api.Errno) {
			o, e := seek.Time(l, 6)
			return o == 0, e
		},
		"Timed": func() (bool, api.Errno) {
			o, m, e := seek.Timed(l, 6)
			return o == 0 && m == api.Meter{}, e
		},
		"Rows": func() (bool, api.Errno) {
			rows, e := seek.Rows(l, 8, 5)
			return len(rows) == 0, e
		},
	}
}

// TestErrorsOfFiles lets each read of each call fail.
func TestErrorsOfFiles(t *testing.T) {
	_, d, _ := seven(t)
	files := &failing{Disk: d, left: 1 << 30}
	l := opened(t, files, config())
	for name, call := range calls(l) {
		files.left = 1 << 30
		_, e := call()
		reads := 1<<30 - files.left
		if e != api.OK || reads == 0 {
			t.Fatalf("%s: %d, %d reads", name, e, reads)
		}
		for n := range reads {
			for _, why := range strange() {
				files.left, files.why = n, why
				if zero, e := call(); !zero || e != why {
					t.Errorf("P16.7: %s, whose read number %d fails by %d: %d, zero %t", name, n, why, e, zero)
				}
			}
		}
	}
	files.left = 1 << 30
	expect(t, "behind errors", l, d)
}

// watched is files that are only to be looked at, and of which only log files are.
type watched struct {
	*disk.Disk
	t    *testing.T
	open bool // while a log is being opened
}

func (f *watched) changes(call, name string) {
	if !f.open {
		f.t.Errorf("%s of %s: nothing of the log is to be changed", call, name)
	}
}

func (f *watched) Read(name string, at, n int) (string, api.Errno) {
	if !strings.HasSuffix(name, ".log") {
		f.t.Errorf("%s is read", name)
	}
	return f.Disk.Read(name, at, n)
}

func (f *watched) Create(name string) api.Errno {
	f.changes("Create", name)
	return f.Disk.Create(name)
}

func (f *watched) Append(name, data string) (int, api.Errno) {
	f.changes("Append", name)
	return f.Disk.Append(name, data)
}

func (f *watched) Cut(name string, size int) api.Errno {
	f.changes("Cut", name)
	return f.Disk.Cut(name, size)
}

func (f *watched) Sync(name string) api.Errno {
	f.changes("Sync", name)
	return f.Disk.Sync(name)
}

func (f *watched) Remove(name string) api.Errno {
	f.changes("Remove", name)
	return f.Disk.Remove(name)
}

// TestNothingIsChanged: no call that might change a file is made, no index file is read, and the log is what it was.
func TestNothingIsChanged(t *testing.T) {
	_, d, _ := seven(t)
	files := &watched{Disk: d, t: t, open: true}
	l := opened(t, files, config())
	files.open = false
	bases, book := len(l.Bases()), l.Book().Len()
	expect(t, "watched", l, d)
	if len(l.Bases()) != bases || l.Book().Len() != book || l.Start() != 5 || l.End() != 14 {
		t.Errorf("from %d to %d, %d", l.Start(), l.End(), l.Bases())
	}
}

// garbled is files that break their word: they answer other bytes than they have.
type garbled struct {
	*disk.Disk
	turn func(s string) string
}

func (f *garbled) Read(name string, at, n int) (string, api.Errno) {
	s, e := f.Disk.Read(name, at, n)
	return f.turn(s), e
}

// TestGarbledFiles: of files that break their word nothing is promised but that calls end and don't panic; an error is told where there is nothing else to tell.
func TestGarbledFiles(t *testing.T) {
	_, d, _ := seven(t)
	turns := map[string]func(s string) string{
		"nothing":        func(string) string { return "" },
		"half":           func(s string) string { return s[:len(s)/2] },
		"double":         func(s string) string { return s + s },
		"zeros":          func(s string) string { return strings.Repeat("\x00", len(s)) },
		"other offsets":  func(s string) string { return "\x00\x00\x00\x00\x00\x00\x00\x00" + s[min(8, len(s)):] },
		"greater frames": func(s string) string { return s[:8] + "\x00\x01" + s[10:] },
		"early times":    func(s string) string { return s[:23] + strings.Repeat("\x80"+strings.Repeat("\x00", 7), 2) + s[39:] },
	}
	for name, turn := range turns {
		files := &garbled{Disk: d, turn: func(s string) string { return s }}
		l := opened(t, files, config())
		files.turn = turn
		for o := int64(4); o < 16; o++ {
			seek.Fetch(l, o, 300)
			seek.Rows(l, o, 20)
			if h, _, e := seek.Find(l, o); e != api.OK && h != (seek.Hit{}) {
				t.Errorf("R5: %s: Find(%d): %+v, %d", name, o, h, e)
			}
			if at, _, e := seek.Timed(l, o); e != api.OK && at != 0 {
				t.Errorf("R5: %s: Timed(%d): %d, %d", name, o, at, e)
			}
		}
		for range seek.Walk(l) {
		}
	}
}
