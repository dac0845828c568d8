package segment_test

import (
	"strconv"
	"strings"
	"testing"

	"gantry/api"
	"gantry/disk"
	"gantry/segment"
)

// laid answers a disk with that log file of the base 10, of which half is safe, and index files that are there or not.
func laid(log string, off, tim api.Opt) *disk.Disk {
	d := disk.New(100000)
	d.Create(logName)
	d.Append(logName, log[:len(log)/2])
	d.Sync(logName)
	d.Append(logName, log[len(log)/2:])
	for name, o := range map[string]api.Opt{offName: off, timName: tim} {
		if o.Has {
			d.Create(name)
			d.Append(name, o.Data)
		}
	}
	d.Create("stray")
	d.Append("stray", "other")
	return d
}

func some(data string) api.Opt { return api.Opt{Has: true, Data: data} }

// TestOpenIndexFiles: whatever has become of the index files, they are made anew, and nothing else is seen.
func TestOpenIndexFiles(t *testing.T) {
	m := sheet{10, 100, five(t)}
	off, tim := m.whole()
	choices := []api.Opt{{}, some(""), some(off), some(tim), some(off[:20]), some(strings.Repeat("junk", 50))}
	for _, last := range []bool{false, true} {
		for _, one := range choices {
			for _, two := range choices {
				d := laid(m.text(), one, two)
				s := m.opened(t, newSpy(t, d), last)
				m.expect(t, "opened", s)
				expectFiles(t, "P13.2: opened", d, 10, m.text(), off, tim)
				if n, _ := d.Synced(logName); n != 300 {
					t.Errorf("P13.2: %d bytes of the log file are safe", n)
				}
				if other, _ := content(d, "stray"); other != "other" || len(d.List()) != 4 {
					t.Errorf("P13.2: the files are %s", d.List())
				}
			}
		}
	}
}

func TestOpenCalls(t *testing.T) {
	m := sheet{10, 100, five(t)}
	made := []string{"sync log", "remove off", "remove tim", "create off", "create tim"}
	made = append(made, "append off 16", "append tim 16", "append off 16", "append tim 16")
	for _, last := range []bool{false, true} {
		files := newSpy(t, laid(m.text(), some("x"), some("y")))
		m.opened(t, files, last)
		files.expect("P13.2: Open", made...)
	}
	files := newSpy(t, laid(m.text()+"torn", api.Opt{}, api.Opt{}))
	m.opened(t, files, true)
	files.expect("P13.2: Open of a torn file", append([]string{"cut log 300"}, made...)...)
}

// tails are bytes that end the run of frames behind which the offset is wanted.
func tails(t *testing.T, wanted int64) []string {
	next := single(t, wanted, 4)
	wrong := []byte(next)
	wrong[59] ^= 1
	great := encoded(t, api.Batch{Base: wanted, Producer: -1, Seq: -1, Records: []api.Record{{Value: some(strings.Repeat("v", 1000))}}})
	return []string{"x", next[:50], next[:59], string(wrong), string(wrong) + next, single(t, wanted-1, 4), single(t, wanted+1, 4), strings.Repeat("\x00", 200), great}
}

func TestOpenTorn(t *testing.T) {
	for count := range 6 {
		m := sheet{10, 100, five(t)[:count]}
		off, tim := m.whole()
		for i, tail := range tails(t, m.end()) {
			name := strconv.Itoa(count) + " frames, tail " + strconv.Itoa(i)
			d := laid(m.text()+tail, some("off"), some("tim"))
			ahead := snapshot(d)
			if s, e := segment.Open(newSpy(t, d), 10, config(100), false); s != nil || e != api.ErrCorrupt || snapshot(d) != ahead {
				t.Errorf("P13.2: %s, not last: %d", name, e)
			}
			s := m.opened(t, newSpy(t, d), true)
			m.expect(t, name, s)
			expectFiles(t, "P13.2: "+name, d, 10, m.text(), off, tim)
			if n, _ := d.Synced(logName); n != len(m.text()) {
				t.Errorf("P13.2: %s: %d bytes are safe", name, n)
			}
			expectGoesOn(t, name, m, d, s)
		}
	}
}

// expectGoesOn appends the next frame to a segment that was opened.
func expectGoesOn(t *testing.T, name string, m sheet, d *disk.Disk, s *segment.Segment) {
	t.Helper()
	next := single(t, m.end(), 30)
	if e := s.Append(next); e != api.OK {
		t.Errorf("P13.6: %s: Append: %d", name, e)
	}
	m.frames = append(m.frames[:len(m.frames):len(m.frames)], next)
	m.expect(t, name+", and one more", s)
	off, tim := m.whole()
	expectFiles(t, "P13.6: "+name+", and one more", d, 10, m.text(), off, tim)
}

func TestOpenWithoutFrames(t *testing.T) {
	m := sheet{10, 100, nil}
	d := laid("", some("off"), api.Opt{})
	ahead := snapshot(d)
	if s, e := segment.Open(newSpy(t, d), 10, config(100), false); s != nil || e != api.ErrCorrupt || snapshot(d) != ahead {
		t.Errorf("P13.2: an empty log file that isn't the last: %d", e)
	}
	s := m.opened(t, newSpy(t, d), true)
	m.expect(t, "an empty log file", s)
	expectFiles(t, "P13.2: an empty log file", d, 10, "", "", "")
	expectGoesOn(t, "an empty log file", m, d, s)
}

func TestOpenRefuses(t *testing.T) {
	text := sheet{10, 100, five(t)}.text()
	for _, last := range []bool{false, true} {
		for _, base := range append(wrongBases(), 10) {
			if s, e := segment.Open(nil, base, config(100), last); s != nil || e != api.ErrNone {
				t.Errorf("P13.2: Open of nil files, base %d: %d", base, e)
			}
		}
		d := laid(text, some("off"), some("tim"))
		ahead := snapshot(d)
		for _, base := range wrongBases() {
			if s, e := segment.Open(newSpy(t, d), base, config(100), last); s != nil || e != api.ErrRange {
				t.Errorf("P13.2: Open(%d): %d", base, e)
			}
		}
		for _, base := range []int64{0, 9, 11, api.MostOffset - 1} {
			if s, e := segment.Open(newSpy(t, d), base, config(100), last); s != nil || e != api.ErrNone {
				t.Errorf("P13.2: Open(%d), of which there is no log file: %d", base, e)
			}
		}
		var gone *disk.Disk
		if s, e := segment.Open(gone, 10, config(100), last); s != nil || e != api.ErrNone {
			t.Errorf("P13.2: Open upon a nil disk: %d", e)
		}
		if snapshot(d) != ahead {
			t.Errorf("P13.2: a refused Open changes files")
		}
	}
}

// TestOpenErrors: an error for the log file is the answer, and such a file is never cut for it; one for an index file is nobody's.
func TestOpenErrors(t *testing.T) {
	m := sheet{10, 100, five(t)}
	for _, want := range strange() {
		for _, call := range []string{"size log", "read log", "cut log", "sync log"} {
			d := laid(m.text()+"torn", some("off"), some("tim"))
			files := newSpy(t, d)
			files.fails[call] = want
			s, e := segment.Open(files, 10, config(100), true)
			if s != nil || e != want {
				t.Errorf("P13.2: %s fails by %d: %d", call, want, e)
			}
			least := 304
			if call == "sync log" {
				least = 300
			}
			if n, _ := d.Size(logName); n != least {
				t.Errorf("P13.2: %s fails by %d: the log file is left with %d bytes", call, want, n)
			}
		}
		for _, call := range []string{"remove off", "remove tim", "create off", "create tim", "append off", "append tim"} {
			d := laid(m.text(), api.Opt{}, api.Opt{})
			files := newSpy(t, d)
			files.fails[call] = want
			s := m.opened(t, files, false)
			m.expect(t, call+" fails", s)
			expectLeftOut(t, call, d, m)
		}
	}
}

// expectLeftOut holds the files against whole ones, but that of the index whose creation or appends fail has no entries.
func expectLeftOut(t *testing.T, call string, d *disk.Disk, m sheet) {
	t.Helper()
	off, tim := m.whole()
	wants := map[string]string{logName: m.text(), offName: off, timName: tim}
	failing := "00000000000000000010." + ending(call)
	if !strings.HasPrefix(call, "remove") {
		wants[failing] = ""
	}
	for name, want := range wants {
		got, ok := content(d, name)
		if there := call != "create "+ending(name); got != want || ok != there {
			t.Errorf("Words: %s fails: %s has %d bytes (%t), want %d", call, name, len(got), ok, len(want))
		}
	}
}

// TestOpenStuck: an index file that can't be removed can't be created either, and gets no entries.
func TestOpenStuck(t *testing.T) {
	m := sheet{10, 100, five(t)}
	for _, file := range []string{"off", "tim"} {
		d := laid(m.text(), some("old"), some("old"))
		files := newSpy(t, d)
		files.fails["remove "+file] = api.ErrClosed
		s := m.opened(t, files, true)
		m.expect(t, "stuck", s)
		s.Append(single(t, 15, 0))
		s.Append(single(t, 16, 0))
		if got, _ := content(d, "00000000000000000010."+file); got != "old" || len(s.Offsets()) != 3 {
			t.Errorf("P13.2: the file %s that can't be created has %q", file, got)
		}
	}
}

// TestOpenOfMostFiles: there is no place for an index file, or for one.
func TestOpenOfMostFiles(t *testing.T) {
	m := sheet{10, 100, five(t)}
	off, _ := m.whole()
	d := laid(m.text(), api.Opt{}, api.Opt{})
	for n := range api.MostFiles - 2 {
		d.Create(strconv.Itoa(n))
	}
	for _, left := range []int{0, 1} {
		s := m.opened(t, newSpy(t, d), true)
		m.expect(t, "no place for index files", s)
		one, has := content(d, offName)
		if _, ok := content(d, timName); ok || has != (left == 1) || has && one != off {
			t.Errorf("P13.2: with place for %d files the offset index's has %d bytes (%t), the time index's is there (%t)", left, len(one), has, ok)
		}
		if e := s.Append(single(t, 15, 3)); e != api.OK {
			t.Errorf("P13.6: Append without index files: %d", e)
		}
		d.Cut(logName, 300)
		d.Remove("7")
	}
}
