package plog_test

import (
	"math"
	"slices"
	"strconv"
	"strings"
	"testing"

	"gantry/api"
	"gantry/disk"
	"gantry/names"
	"gantry/plog"
)

func TestOpenOfNoFiles(t *testing.T) {
	for _, first := range []int64{-1, 0, api.MostOffset} {
		if l, e := plog.Open(nil, api.Config{First: first}); l != nil || e != api.ErrNone {
			t.Errorf("P15.1: Open of nil: %d", e)
		}
	}
	var gone *disk.Disk
	if l, e := plog.Open(gone, config()); l != nil || e != api.ErrFull {
		t.Errorf("P15.1: Open upon a nil disk: %d", e)
	}
}

func TestOpenAnew(t *testing.T) {
	for _, first := range []int64{math.MinInt64, -1, 0, 1, 77, 1 << 40, api.MostOffset - 1} {
		c := config()
		c.First = first
		d := disk.New(c.Room)
		files := newSpy(t, d)
		l := opened(t, files, c)
		c.First = max(first, 0)
		m := newSheet(c)
		m.expect(t, "made anew", l)
		m.expectFiles(t, "P15.1: made anew", d)
		base := strconv.FormatInt(c.First, 10)
		files.expect("P15.1: Open of nothing", "create "+base+".log", "create "+base+".off", "create "+base+".tim")
	}
}

// TestOpenAnewRefused: with the first offset MostOffset no log opens, and what was done to index files stays done.
func TestOpenAnewRefused(t *testing.T) {
	for _, first := range []int64{api.MostOffset, api.MostOffset + 1, math.MaxInt64} {
		c := config()
		c.First = first
		d := disk.New(c.Room)
		put(d, nameOf(7, names.Offsets), "some")
		put(d, nameOf(api.MostOffset, names.Times), "more")
		put(d, "stray", "other")
		if l, e := plog.Open(d, c); l != nil || e != api.ErrRange {
			t.Errorf("P15.1: Open with the first offset %d: %d", first, e)
		}
		if snapshot(d) != "stray |other\n" {
			t.Errorf("P15.1: %q", snapshot(d))
		}
	}
}

// TestOpenAnewErrors: whatever error Create answers is the answer, and no file is left.
func TestOpenAnewErrors(t *testing.T) {
	for _, file := range []string{"5.log", "5.off", "5.tim"} {
		for _, want := range strange() {
			d := disk.New(1000)
			files := newSpy(t, d)
			files.fails["create "+file] = want
			if l, e := plog.Open(files, config()); l != nil || e != want || len(d.List()) != 0 {
				t.Errorf("P15.1: %d for the file %s: %d, %s", want, file, e, d.List())
			}
		}
	}
}

// TestOpenAnewOfMostFiles: where there is place for no further file it is Make's error.
func TestOpenAnewOfMostFiles(t *testing.T) {
	d := disk.New(1000)
	for n := range api.MostFiles - 1 {
		d.Create(strconv.Itoa(n))
	}
	d.Create(nameOf(9, names.Times))
	for left := 1; left < 3; left++ {
		if l, e := plog.Open(d, config()); l != nil || e != api.ErrMost || len(d.List()) != api.MostFiles-left {
			t.Errorf("P15.1: Open with place for %d files: %d, %d files", left, e, len(d.List()))
		}
		d.Remove(strconv.Itoa(left))
	}
	newSheet(config()).expect(t, "made anew beside many", opened(t, d, config()))
}

// TestOpenIndexFiles: all index files go, of every base, whatever stood in them, and those of log files are made anew; strays stay.
func TestOpenIndexFiles(t *testing.T) {
	p := newPair(t, config())
	p.append(t, "five", single(t, 1), single(t, 2), single(t, 3), single(t, 4), single(t, 5))
	strays := []string{"00000000000000000005.LOG", "00000000000000000007.off2", "04611686018427387905.log", "5.log", "7.off", "stray", "\x00"}
	for _, s := range strays {
		put(p.d, s, "other")
	}
	for _, base := range []int64{0, 4, 6, 7, 8, 10, 1 << 50, api.MostOffset} {
		p.d.Remove(nameOf(base, names.Offsets))
		put(p.d, nameOf(base, names.Offsets), strings.Repeat("junk", 9))
		put(p.d, nameOf(base, names.Times), "more")
	}
	p.d.Remove(nameOf(5, names.Times))
	p.d.Overwrite(nameOf(5, names.Offsets), 0, "over")
	p.m.c.Room -= 5 * len(strays)
	p.m.reopen()
	p.m.c.Room += 5 * len(strays)
	p.l = opened(t, newSpy(t, p.d), p.m.c)
	p.expect(t, "P15.1: opened again", strays...)
	for _, s := range strays {
		if content(p.d, s) != "other" {
			t.Errorf("P15.1: the stray %s has %q", s, content(p.d, s))
		}
	}
}

// TestOpenCalls: the index files go first; then it goes segment by segment, from the least base on.
func TestOpenCalls(t *testing.T) {
	c := config()
	p := newPair(t, c)
	p.append(t, "three", single(t, 1), single(t, 2), single(t, 3))
	put(p.d, nameOf(0, names.Offsets), "")
	put(p.d, nameOf(9, names.Times), "")
	p.d.Append(nameOf(7, names.Log), "torn")
	files := newSpy(t, p.d)
	opened(t, files, c)
	calls := files.took()
	first := slices.Sorted(slices.Values(calls[:6]))
	if !slices.Equal(first, []string{"remove 0.off", "remove 5.off", "remove 5.tim", "remove 7.off", "remove 7.tim", "remove 9.tim"}) {
		t.Errorf("P15.1: the first calls are %s", calls[:6])
	}
	var changes []string
	for _, call := range calls[6:] {
		if !strings.HasPrefix(call, "remove") {
			changes = append(changes, call)
		}
	}
	want := []string{"sync 5.log", "create 5.off", "create 5.tim", "append 5.off", "append 5.tim", "cut 7.log", "sync 7.log", "create 7.off", "create 7.tim"}
	if !slices.Equal(changes, want) {
		t.Errorf("P15.1: Open calls\n%s, want\n%s", changes, want)
	}
}

// TestOpenCorrupt: log files that make no log.
func TestOpenCorrupt(t *testing.T) {
	f := single(t, 0)
	at := func(base int64) string { return rebased(t, f, base) }
	end := int64(api.MostOffset)
	for _, c := range []struct {
		name string
		logs map[int64]string
		want api.Errno
	}{
		{"an offset left out", map[int64]string{0: at(0) + at(1), 3: at(3)}, api.ErrCorrupt},
		{"an offset twice", map[int64]string{0: at(0) + at(1), 1: at(1)}, api.ErrCorrupt},
		{"an offset left out, and the last without frames", map[int64]string{0: at(0), 2: ""}, api.ErrCorrupt},
		{"the first without frames", map[int64]string{0: "", 1: at(1)}, api.ErrCorrupt},
		{"one between without frames", map[int64]string{0: at(0), 1: "", 2: at(2)}, api.ErrCorrupt},
		{"the first with a torn end", map[int64]string{0: at(0) + "torn", 1: at(1)}, api.ErrCorrupt},
		{"the first with another base", map[int64]string{0: at(1), 1: at(1)}, api.ErrCorrupt},
		{"one between with a torn end", map[int64]string{0: at(0), 1: at(1) + at(2)[:59], 2: at(2)}, api.ErrCorrupt},
		{"the first cut", map[int64]string{0: at(0) + at(1)[:30], 2: at(2)}, api.ErrCorrupt},
		{"the base MostOffset alone", map[int64]string{end: ""}, api.ErrRange},
		{"the base MostOffset behind the end", map[int64]string{end - 2: at(end - 2), end: ""}, api.ErrCorrupt},
		{"the base MostOffset at the end", map[int64]string{end - 1: at(end - 1), end: ""}, api.ErrRange},
	} {
		d := disk.New(10000)
		for base, text := range c.logs {
			put(d, nameOf(base, names.Log), text)
			put(d, nameOf(base, names.Times), "old")
		}
		if l, e := plog.Open(d, config()); l != nil || e != c.want {
			t.Errorf("P15.1: %s: %d, want %d", c.name, e, c.want)
		}
		for base, text := range c.logs {
			if content(d, nameOf(base, names.Log)) != text {
				t.Errorf("P15.1: %s: the log file %d is another one", c.name, base)
			}
			if content(d, nameOf(base, names.Times)) == "old" {
				t.Errorf("P15.1: %s: the old index of %d is there still", c.name, base)
			}
		}
	}
}

// TestOpenStaysDone: beside an error, what was done ahead of it stays done, and nothing behind it is done.
func TestOpenStaysDone(t *testing.T) {
	f := single(t, 0)
	d := disk.New(10000)
	put(d, nameOf(0, names.Log), f+rebased(t, f, 1))
	put(d, nameOf(2, names.Log), rebased(t, f, 2))
	put(d, nameOf(4, names.Log), rebased(t, f, 4)+"torn")
	put(d, nameOf(4, names.Offsets), "old")
	if l, e := plog.Open(d, config()); l != nil || e != api.ErrCorrupt {
		t.Fatalf("P15.1: Open: %d", e)
	}
	var want []string
	for _, base := range []int64{0, 2} {
		for kind := range 3 {
			want = append(want, nameOf(base, names.Kind(kind)))
		}
	}
	if want = append(want, nameOf(4, names.Log)); !slices.Equal(d.List(), want) {
		t.Errorf("P15.1: the files are %s", d.List())
	}
	for base, safe := range map[int64]int{0: 120, 2: 60, 4: 0} {
		if n, _ := d.Synced(nameOf(base, names.Log)); n != safe {
			t.Errorf("P15.1: %d bytes of the log file %d are safe", n, base)
		}
	}
	if size, _ := d.Size(nameOf(4, names.Log)); size != 64 {
		t.Errorf("P15.1: the last log file has %d bytes", size)
	}
}

// TestOpenTorn cuts the last log file at every byte: the frames ahead of the cut are the log's.
func TestOpenTorn(t *testing.T) {
	whole := newPair(t, config())
	whole.append(t, "four", single(t, 1), sent(t, 3, 0, 1), single(t, 3), sent(t, 3, 1, 1))
	if whole.l.Segments() != 2 {
		t.Fatalf("%d segments", whole.l.Segments())
	}
	text := whole.m.last().text()
	for size := range len(text) {
		for _, tail := range []string{"", "torn"} {
			p := &pair{m: whole.m.clone(), d: whole.d.Clone()}
			p.d.Cut(nameOf(7, names.Log), size)
			p.d.Append(nameOf(7, names.Log), tail)
			last := p.m.last()
			for len(last.text()) > size {
				last.frames = last.frames[:len(last.frames)-1]
			}
			p.reopen(t)
			p.expect(t, "P15.1: cut to "+strconv.Itoa(size)+" bytes")
		}
	}
}

// TestOpenLimits: by lesser limits a frame isn't right any more.
func TestOpenLimits(t *testing.T) {
	c := config()
	p := newPair(t, c)
	p.append(t, "three", single(t, 1), single(t, 2), single(t, 3))
	c.Frame = 59
	if l, e := plog.Open(p.d.Clone(), c); l != nil || e != api.ErrCorrupt {
		t.Errorf("P15.1: Open by frames of at most 59 bytes: %d", e)
	}
	c.Frame, c.Plain = 60, 8
	if l, e := plog.Open(p.d.Clone(), c); l != nil || e != api.ErrCorrupt {
		t.Errorf("P15.1: Open by records of at most 8 bytes: %d", e)
	}
	c.Plain = 9
	if l := opened(t, p.d, c); l.End() != 8 {
		t.Errorf("P15.1: Open by limits that are just enough: the end is %d", l.End())
	}
}

// TestOpenErrors: an error for a log file is the answer, one for an index file nobody's.
func TestOpenErrors(t *testing.T) {
	for _, call := range []string{"size 5.log", "read 5.log", "sync 5.log", "size 7.log", "read 7.log", "cut 7.log", "sync 7.log"} {
		for _, want := range strange() {
			p := newPair(t, config())
			p.append(t, "three", single(t, 1), single(t, 2), single(t, 3))
			p.d.Append(nameOf(7, names.Log), "torn")
			files := newSpy(t, p.d)
			files.fails[call] = want
			if l, e := plog.Open(files, config()); l != nil || e != want {
				t.Errorf("P15.1: %s fails by %d: %d", call, want, e)
			}
		}
	}
	for _, call := range []string{"remove 5.off", "create 5.off", "append 5.tim", "create 7.tim", "remove 7.tim"} {
		p := newPair(t, config())
		p.append(t, "three", single(t, 1), single(t, 2), single(t, 3))
		files := newSpy(t, p.d)
		files.fails[call] = api.ErrMost
		p.m.expect(t, call+" fails", opened(t, files, config()))
	}
}

// fewReads refuses each read behind so many.
type fewReads struct {
	*disk.Disk
	left int
}

func (f *fewReads) Read(name string, at, n int) (string, api.Errno) {
	if f.left == 0 {
		return "", api.ErrClosed
	}
	f.left--
	return f.Disk.Read(name, at, n)
}

// TestOpenReadErrors: whichever read fails, there is no log without some of its frames or batches.
func TestOpenReadErrors(t *testing.T) {
	p := newPair(t, config())
	p.append(t, "three", single(t, 1), sent(t, 1, 0, 1), sent(t, 1, 1, 1))
	for left := 0; ; left++ {
		files := &fewReads{p.d, left}
		l, e := plog.Open(files, config())
		if e == api.OK {
			if left < 6 {
				t.Errorf("%d reads are enough", left)
			}
			files.left = math.MaxInt
			p.m.expect(t, "with all reads", l)
			return
		}
		if l != nil || e != api.ErrClosed {
			t.Fatalf("P15.1: Open by %d reads: %d", left, e)
		}
	}
}
