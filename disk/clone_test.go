package disk_test

import (
	"strings"
	"testing"

	"gantry/api"
	"gantry/disk"
)

// furnished answers a disk with some files, one of them cut, so that it may have spare room.
func furnished(t *testing.T) pair {
	p := newPair(40)
	p.create(t, "a")
	p.append(t, "a", "12345678")
	p.sync(t, "a")
	p.cut(t, "a", 5)
	p.create(t, "b")
	p.append(t, "b", "bbb")
	p.create(t, "empty")
	p.read(t, "a", 0, 2)
	return p
}

// TestCloneIsApart does to one of two twins whatever changes a disk, and looks at both.
func TestCloneIsApart(t *testing.T) {
	changes := []func(p pair){
		func(p pair) { p.create(t, "c") },
		func(p pair) { p.append(t, "a", "xy") },
		func(p pair) { p.append(t, "empty", "xy") },
		func(p pair) { p.append(t, "b", strings.Repeat("f", 50)) },
		func(p pair) { p.cut(t, "a", 2) },
		func(p pair) { p.sync(t, "b") },
		func(p pair) { p.remove(t, "a") },
		func(p pair) { p.overwrite(t, "a", 1, "__") },
		func(p pair) { p.read(t, "b", 1, 2) },
	}
	for _, first := range changes {
		for _, second := range changes {
			one := furnished(t)
			two := one.clone()
			mustBe(t, two.d, two.m)
			mustBe(t, one.d, one.m)
			first(one)
			mustBe(t, two.d, two.m)
			mustBe(t, one.d, one.m)
			second(two)
			mustBe(t, one.d, one.m)
			mustBe(t, two.d, two.m)
			three := two.clone()
			first(two)
			mustBe(t, three.d, three.m)
		}
	}
}

// TestTwinsGrowApart: both lay bytes behind the same ones.
func TestTwinsGrowApart(t *testing.T) {
	for size := range 40 {
		one := newPair(100)
		one.create(t, "a")
		for range size {
			one.append(t, "a", "s")
		}
		two := one.clone()
		one.append(t, "a", "one")
		two.append(t, "a", "two")
		three := one.clone()
		one.append(t, "a", "1")
		three.append(t, "a", "3")
		for _, p := range []pair{one, two, three} {
			mustBe(t, p.d, p.m)
		}
	}
}

func TestCloneOfFewFiles(t *testing.T) {
	for _, d := range []*disk.Disk{disk.New(7), {}, disk.New(0).Clone()} {
		p := pair{d, newSheet(d.Room())}
		twin := p.clone()
		mustBe(t, twin.d, twin.m)
		twin.create(t, "a")
		twin.append(t, "a", "123456789")
		mustBe(t, p.d, p.m)
		mustBe(t, twin.d, twin.m)
	}
}

// TestNil asks a nil disk all that there is, twice.
func TestNil(t *testing.T) {
	var d *disk.Disk
	p := pair{d, &sheet{gone: true}}
	for range 2 {
		for _, name := range []string{"a", "", strings.Repeat("x", 255), strings.Repeat("x", 256)} {
			p.create(t, name)
			p.append(t, name, "")
			p.append(t, name, "x")
			for _, n := range []int{-1, 0, 1} {
				p.cut(t, name, n)
				p.overwrite(t, name, n, "")
				p.read(t, name, n, 0)
				p.read(t, name, 0, n)
			}
			p.sync(t, name)
			p.remove(t, name)
			mustBe(t, d, p.m)
		}
		if d.Clone() != nil {
			t.Error("P7.8: a clone of nil is not nil")
		}
	}
	if e := d.Create("a"); e != api.ErrFull {
		t.Errorf("P7.8: Create answers %d", e)
	}
	if e := d.Create(""); e != api.ErrName {
		t.Errorf("P7.8: Create of no name answers %d", e)
	}
}

// TestNilBehindTheInterface: a Files that holds a nil disk is one that keeps nothing.
func TestNilBehindTheInterface(t *testing.T) {
	var f disk.Files = (*disk.Disk)(nil)
	if e := f.Create("a"); e != api.ErrFull || len(f.List()) != 0 {
		t.Errorf("P7.8: %d, %q", e, f.List())
	}
	if n, e := f.Size("a"); n != 0 || e != api.ErrNone {
		t.Errorf("P7.8: %d, %d", n, e)
	}
}

// TestZeroIsAsNew: the zero Disk has no room, but names need none.
func TestZeroIsAsNew(t *testing.T) {
	for _, d := range []*disk.Disk{{}, new(disk.Disk), disk.New(0), disk.New(-3)} {
		p := pair{d, newSheet(0)}
		mustBe(t, p.d, p.m)
		p.remove(t, "a")
		p.read(t, "a", 0, 0)
		p.append(t, "a", "")
		p.create(t, "a")
		p.create(t, "a")
		p.append(t, "a", "x")
		p.append(t, "a", "")
		p.read(t, "a", 0, 0)
		p.read(t, "a", 0, 1)
		p.overwrite(t, "a", 0, "")
		p.cut(t, "a", 0)
		p.sync(t, "a")
		mustBe(t, p.d, p.m)
		p.remove(t, "a")
		mustBe(t, p.d, p.m)
	}
}
