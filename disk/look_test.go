package disk_test

import (
	"math"
	"slices"
	"strings"
	"testing"

	"gantry/api"
	"gantry/disk"
)

var _ disk.Files = (*disk.Disk)(nil)

// TestChapterExample goes through the chapter's example, the calls of a Files behind the interface.
func TestChapterExample(t *testing.T) {
	d := disk.New(10)
	var f disk.Files = d
	errs := func(what string, got, want api.Errno) {
		t.Helper()
		if got != want {
			t.Errorf("%s answers %d, not %d", what, got, want)
		}
	}
	number := func(what string, n int, e api.Errno, wantN int, want api.Errno) {
		t.Helper()
		if n != wantN || e != want {
			t.Errorf("%s answers %d, %d, not %d, %d", what, n, e, wantN, want)
		}
	}
	reads := func(calls, bytes int) {
		t.Helper()
		if c, b := d.Reads(); c != calls || b != bytes {
			t.Errorf("Reads are %d, %d, not %d, %d", c, b, calls, bytes)
		}
	}
	errs("Create", f.Create("a"), api.OK)
	errs("Create again", f.Create("a"), api.ErrName)
	errs("Create of no name", f.Create(""), api.ErrName)
	n, e := f.Append("a", "12345678")
	number("Append of 8", n, e, 8, api.OK)
	n, e = f.Append("a", "abcde")
	number("Append of 5", n, e, 2, api.ErrFull)
	n, e = f.Size("a")
	number("Size", n, e, 10, api.OK)
	number("Used", d.Used(), api.OK, 10, api.OK)
	n, e = f.Append("a", "")
	number("Append of none", n, e, 0, api.OK)
	n, e = f.Append("b", "")
	number("Append to no file", n, e, 0, api.ErrNone)
	errs("Create of b", f.Create("b"), api.OK)
	errs("Sync", f.Sync("a"), api.OK)
	errs("Cut to 6", f.Cut("a", 6), api.OK)
	n, e = d.Synced("a")
	number("Synced", n, e, 6, api.OK)
	errs("Cut to 7", f.Cut("a", 7), api.ErrRange)
	n, e = f.Append("a", "xyz")
	number("Append of 3", n, e, 3, api.OK)
	n, e = f.Size("a")
	number("Size", n, e, 9, api.OK)
	n, e = d.Synced("a")
	number("Synced", n, e, 6, api.OK)
	if s, e := f.Read("a", 6, 3); s != "xyz" || e != api.OK {
		t.Errorf("Read answers %q, %d", s, e)
	}
	reads(1, 3)
	if s, e := f.Read("a", 9, 0); s != "" || e != api.OK {
		t.Errorf("Read answers %q, %d", s, e)
	}
	reads(2, 3)
	if s, e := f.Read("a", 9, 1); s != "" || e != api.ErrRange {
		t.Errorf("Read answers %q, %d", s, e)
	}
	reads(2, 3)
	errs("Overwrite of 2", d.Overwrite("a", 8, "pq"), api.ErrRange)
	errs("Overwrite of 1", d.Overwrite("a", 8, "p"), api.OK)
	n, e = d.Synced("a")
	number("Synced", n, e, 6, api.OK)
	errs("Remove", f.Remove("a"), api.OK)
	number("Used", d.Used(), api.OK, 0, api.OK)
	if !slices.Equal(f.List(), []string{"b"}) {
		t.Errorf("List is %q", f.List())
	}
}

func TestRoomAsItCounts(t *testing.T) {
	const most = 1099511627776
	for _, c := range [][2]int{{0, 0}, {1, 1}, {-1, 0}, {math.MinInt, 0}, {most - 1, most - 1}, {most, most}, {most + 1, most}, {math.MaxInt, most}} {
		if r := disk.New(c[0]).Room(); r != c[1] {
			t.Errorf("P7.1: the room of New(%d) is %d", c[0], r)
		}
		if r := disk.New(c[0]).Clone().Room(); r != c[1] {
			t.Errorf("P7.8: the room of a clone of New(%d) is %d", c[0], r)
		}
	}
	p := newPair(-5)
	p.create(t, "a")
	p.append(t, "a", "x")
	mustBe(t, p.d, p.m)
}

// TestListByBytes: names are told byte by byte in rising order, whatever order they came in.
func TestListByBytes(t *testing.T) {
	rising := []string{"\x00", "\x00\x00", "\x00a", " ", "10", "2", "A", "Z", "a", "a\x00", "aA", "aa", "b", "z", "\x7f", "\x80", "Ä", "ä", "ﬀ", "𐀀", "\xff", "\xff\x00"}
	for shift := range len(rising) {
		d := disk.New(0)
		for i := range rising {
			if e := d.Create(rising[(i*5+shift)%len(rising)]); e != api.OK {
				t.Fatalf("Create: %d", e)
			}
		}
		for range 3 {
			if l := d.List(); !slices.Equal(l, rising) {
				t.Fatalf("P7.1: %q", l)
			}
		}
	}
}

// TestListIsNewMemory: what a caller does to a list is not seen in the next one.
func TestListIsNewMemory(t *testing.T) {
	d := disk.New(0)
	d.Create("a")
	d.Create("b")
	d.Create("c")
	first := d.List()
	second := d.List()
	full := first[:cap(first)]
	for i := range full {
		full[i] = "x"
	}
	if want := []string{"a", "b", "c"}; !slices.Equal(second, want) || !slices.Equal(d.List(), want) {
		t.Errorf("R3: %q, %q", second, d.List())
	}
}

// TestReadRanges asks for all pieces of a small file, and for some beyond it.
func TestReadRanges(t *testing.T) {
	p := newPair(100)
	p.create(t, "empty")
	p.create(t, "a")
	p.append(t, "a", "0123\x006\xff8")
	for _, name := range []string{"a", "empty", "none", "", strings.Repeat("a", 256)} {
		for at := -2; at < 12; at++ {
			for n := -2; n < 12; n++ {
				p.read(t, name, at, n)
				mustLook(t, p.d, p.m)
			}
		}
	}
}

// TestReadReckonsWithoutWrapping: at and n whose sum is beyond all numbers are out of range like others.
func TestReadReckonsWithoutWrapping(t *testing.T) {
	p := newPair(100)
	p.create(t, "a")
	p.append(t, "a", "12345678")
	wild := []int{math.MinInt, math.MinInt + 1, -1 << 32, -8, -1, 0, 1, 8, 9, 1 << 31, 1 << 32, 1<<62 - 1, 1 << 62, math.MaxInt - 7, math.MaxInt - 1, math.MaxInt}
	for _, at := range wild {
		p.cut(t, "none", at)
		p.overwrite(t, "a", at, "")
		if at != 0 && at != 1 {
			p.cut(t, "a", at)
			p.overwrite(t, "a", at, "x")
		}
		for _, n := range wild {
			p.read(t, "a", at, n)
			p.read(t, "none", at, n)
			mustLook(t, p.d, p.m)
		}
	}
	mustBe(t, p.d, p.m)
}

// TestReadAnswersStay: what was read stays what it was, whatever becomes of the file.
func TestReadAnswersStay(t *testing.T) {
	d := disk.New(100)
	d.Create("a")
	d.Append("a", "12345678")
	s, _ := d.Read("a", 0, 8)
	d.Overwrite("a", 0, "xxxx")
	d.Cut("a", 6)
	d.Append("a", "yy")
	if s != "12345678" {
		t.Errorf("R3: what was read is %q now", s)
	}
	if s, _ = d.Read("a", 0, 8); s != "xxxx56yy" {
		t.Errorf("P7.6: %q", s)
	}
}

func TestLookingCountsNothing(t *testing.T) {
	p := newPair(100)
	p.create(t, "a")
	p.append(t, "a", "12345678")
	for range 3 {
		p.d.Room()
		p.d.Used()
		p.d.List()
		p.d.Size("a")
		p.d.Synced("a")
		p.d.Reads()
		mustLook(t, p.d, p.m)
	}
}
