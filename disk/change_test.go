package disk_test

import (
	"runtime"
	"strconv"
	"strings"
	"testing"

	"gantry/api"
	"gantry/disk"
)

func TestCreateNames(t *testing.T) {
	p := newPair(0)
	for n := range 300 {
		p.create(t, strings.Repeat("n", n))
	}
	p.create(t, strings.Repeat("m", 1<<20))
	for b := range 256 {
		p.create(t, string([]byte{byte(b)}))
	}
	mustBe(t, p.d, p.m)
	if len(p.d.List()) != 255+255 {
		t.Errorf("P7.3: %d files", len(p.d.List()))
	}
}

// TestMostFiles: one file more than may be is refused, but a name that can't be one is told first, and a place that comes free is a place again.
func TestMostFiles(t *testing.T) {
	d := disk.New(100)
	for i := range api.MostFiles {
		if e := d.Create(strconv.Itoa(i)); e != api.OK {
			t.Fatalf("P7.3: %d: %d", i, e)
		}
	}
	d.Append("7", "x")
	for _, c := range []struct {
		name string
		e    api.Errno
	}{{"more", api.ErrMost}, {"", api.ErrName}, {"65535", api.ErrName}, {"0", api.ErrName}, {strings.Repeat("x", 256), api.ErrName}, {strings.Repeat("x", 255), api.ErrMost}} {
		if e := d.Create(c.name); e != c.e {
			t.Errorf("P7.3: Create(%q) answers %d, not %d", c.name, e, c.e)
		}
	}
	if n := len(d.List()); n != api.MostFiles {
		t.Errorf("P7.7: %d files", n)
	}
	twin := d.Clone()
	if e := d.Remove("7"); e != api.OK {
		t.Error(e)
	}
	if e := twin.Create("more"); e != api.ErrMost {
		t.Errorf("P7.8: a clone of a disk with all its files answers %d", e)
	}
	if e := d.Create("more"); e != api.OK {
		t.Errorf("P7.3: %d", e)
	}
	if e := d.Create("7"); e != api.ErrMost {
		t.Errorf("P7.3: %d", e)
	}
}

// TestCreatedAgain: a file that was removed leaves nothing to the next one of its name.
func TestCreatedAgain(t *testing.T) {
	p := newPair(20)
	for _, data := range []string{"12345678", "", "ab"} {
		p.create(t, "a")
		mustBe(t, p.d, p.m)
		p.append(t, "a", data)
		p.sync(t, "a")
		mustBe(t, p.d, p.m)
		p.remove(t, "a")
		p.remove(t, "a")
		mustBe(t, p.d, p.m)
	}
}

// TestAppendFits lays texts of all small lengths upon disks of all small rooms, some of them used by another file.
func TestAppendFits(t *testing.T) {
	for room := range 12 {
		for other := range 6 {
			for n := range 14 {
				p := newPair(room)
				p.create(t, "other")
				p.append(t, "other", "ooooooooooo"[:other])
				p.create(t, "a")
				p.append(t, "a", "abcdefghijklmn"[:n])
				p.append(t, "a", "xy")
				p.append(t, "a", "")
				p.append(t, "other", "z")
				p.append(t, "none", "z")
				mustBe(t, p.d, p.m)
				p.cut(t, "other", min(other, room)/2)
				p.append(t, "a", "pqr")
				p.remove(t, "other")
				p.append(t, "a", "stu")
				mustBe(t, p.d, p.m)
			}
		}
	}
}

// TestMostFile fills a file up to the most bytes of one, while the disk has room for more.
func TestMostFile(t *testing.T) {
	if testing.Short() {
		t.Skip("it takes two gigabytes of memory")
	}
	d := disk.New(1 << 40)
	d.Create("a")
	d.Create("b")
	d.Append("b", "12345")
	great := strings.Repeat("p", 1<<30+2)
	if n, e := d.Append("a", great); n != 1073741824 || e != api.ErrFull {
		t.Fatalf("P7.4: %d, %d", n, e)
	}
	d.Cut("a", 1073741824-3)
	if n, e := d.Append("a", "xyz__"); n != 3 || e != api.ErrFull {
		t.Fatalf("P7.4: %d, %d", n, e)
	}
	for _, c := range []struct {
		data string
		e    api.Errno
	}{{"x", api.ErrFull}, {"", api.OK}, {great, api.ErrFull}} {
		if n, e := d.Append("a", c.data); n != 0 || e != c.e {
			t.Fatalf("P7.4: %d, %d, not %d", n, e, c.e)
		}
	}
	if n, e := d.Size("a"); n != 1073741824 || e != api.OK || d.Used() != 1073741829 {
		t.Errorf("P7.4: %d, %d, used %d", n, e, d.Used())
	}
	if s, e := d.Read("a", 1073741824-4, 4); s != "pxyz" || e != api.OK {
		t.Errorf("P7.4: %q, %d", s, e)
	}
	if n, e := d.Append("b", "678"); n != 3 || e != api.OK || d.Used() != 1073741832 {
		t.Errorf("P7.4: another file has room: %d, %d, used %d", n, e, d.Used())
	}
	d.Cut("a", 1073741824-3)
	if n, e := d.Append("a", "qrs"); n != 3 || e != api.OK {
		t.Errorf("P7.4: %d, %d", n, e)
	}
}

// TestSyncedGoesWithItsFile follows how much is safe through all that is done to a file.
func TestSyncedGoesWithItsFile(t *testing.T) {
	for size := range 8 {
		for safe := range size + 1 {
			for left := range size + 1 {
				p := newPair(100)
				p.create(t, "a")
				p.create(t, "b")
				p.append(t, "b", "bbb")
				p.append(t, "a", "12345678"[:safe])
				p.sync(t, "a")
				p.append(t, "a", "12345678"[safe:size])
				mustBe(t, p.d, p.m)
				p.overwrite(t, "a", 0, "........"[:size])
				mustBe(t, p.d, p.m)
				p.cut(t, "a", left)
				mustBe(t, p.d, p.m)
				p.append(t, "a", "xy")
				mustBe(t, p.d, p.m)
				p.sync(t, "a")
				p.sync(t, "a")
				mustBe(t, p.d, p.m)
			}
		}
	}
}

func TestCutSizes(t *testing.T) {
	for size := -2; size < 11; size++ {
		p := newPair(9)
		p.create(t, "a")
		p.create(t, "b")
		p.append(t, "b", "b")
		p.append(t, "a", "12345678")
		p.sync(t, "a")
		p.cut(t, "a", size)
		p.cut(t, "none", size)
		p.cut(t, "", size)
		mustBe(t, p.d, p.m)
		p.append(t, "a", "abcdefghijk")
		mustBe(t, p.d, p.m)
	}
}

func TestOverwritePlaces(t *testing.T) {
	for at := -3; at < 12; at++ {
		for n := range 12 {
			p := newPair(10)
			p.create(t, "a")
			p.append(t, "a", "1234")
			p.sync(t, "a")
			p.append(t, "a", "5678")
			p.overwrite(t, "a", at, "abc\x00\xffefghijk"[:n])
			p.overwrite(t, "none", at, "abcdefghijkl"[:n])
			p.overwrite(t, "", at, "abcdefghijkl"[:n])
			mustBe(t, p.d, p.m)
		}
	}
}

// TestOverwriteOnAFullDisk: it needs no room.
func TestOverwriteOnAFullDisk(t *testing.T) {
	p := newPair(4)
	p.create(t, "a")
	p.append(t, "a", "12345")
	p.overwrite(t, "a", 0, "abcd")
	p.overwrite(t, "a", 4, "")
	p.overwrite(t, "a", 4, "e")
	p.overwrite(t, "a", 5, "")
	mustBe(t, p.d, p.m)
}

// TestRefusedChangesNothing does to a disk all that it refuses.
func TestRefusedChangesNothing(t *testing.T) {
	p := newPair(12)
	p.create(t, "a")
	p.create(t, "b")
	p.append(t, "a", "1234")
	p.sync(t, "a")
	p.append(t, "a", "5678")
	p.append(t, "b", "bb")
	p.read(t, "a", 1, 3)
	refused := []func() api.Errno{
		func() api.Errno { return p.d.Create("a") },
		func() api.Errno { return p.d.Create("") },
		func() api.Errno { return p.d.Create(strings.Repeat("c", 256)) },
		func() api.Errno { _, e := p.d.Append("c", "x"); return e },
		func() api.Errno { _, e := p.d.Append("", ""); return e },
		func() api.Errno { return p.d.Cut("a", -1) },
		func() api.Errno { return p.d.Cut("a", 9) },
		func() api.Errno { return p.d.Cut("c", 0) },
		func() api.Errno { return p.d.Sync("c") },
		func() api.Errno { return p.d.Remove("c") },
		func() api.Errno { return p.d.Remove("") },
		func() api.Errno { return p.d.Overwrite("a", -1, "x") },
		func() api.Errno { return p.d.Overwrite("a", 7, "xy") },
		func() api.Errno { return p.d.Overwrite("a", 9, "") },
		func() api.Errno { return p.d.Overwrite("c", 0, "") },
		func() api.Errno { _, e := p.d.Read("a", 0, 9); return e },
		func() api.Errno { _, e := p.d.Read("a", -1, 1); return e },
		func() api.Errno { _, e := p.d.Read("c", 0, 0); return e },
		func() api.Errno { _, e := p.d.Size("c"); return e },
		func() api.Errno { _, e := p.d.Synced("c"); return e },
	}
	for i, call := range refused {
		if e := call(); e == api.OK || e == api.ErrFull {
			t.Errorf("P7.7: call %d answers %d", i, e)
		}
		mustLook(t, p.d, p.m)
		mustBe(t, p.d, p.m)
	}
}

// TestManySmallAppends: a file grows without being copied each time.
func TestManySmallAppends(t *testing.T) {
	var ahead, behind runtime.MemStats
	d := disk.New(1 << 30)
	d.Create("a")
	runtime.ReadMemStats(&ahead)
	for range 1 << 20 {
		d.Append("a", "x")
	}
	runtime.ReadMemStats(&behind)
	if n, _ := d.Size("a"); n != 1<<20 {
		t.Errorf("P7.4: %d", n)
	}
	if n := behind.TotalAlloc - ahead.TotalAlloc; n > 20<<20 {
		t.Errorf("%d bytes are taken for a file of 2^20", n)
	}
}
