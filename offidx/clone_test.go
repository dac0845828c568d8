package offidx_test

import (
	"slices"
	"testing"

	"gantry/api"
	"gantry/offidx"
)

// TestCloneIsApart does to one of two twins whatever changes an index, and looks at both.
func TestCloneIsApart(t *testing.T) {
	changes := []func(p pair){
		func(p pair) { p.add(t, api.Entry{Key: 200, At: 1000}) },
		func(p pair) { p.add(t, api.Entry{Key: 300, At: 2000}) },
		func(p pair) { p.cut(t, 0) },
		func(p pair) { p.cut(t, 2) },
		func(p pair) {
			p.cut(t, 1)
			p.add(t, api.Entry{Key: 7, At: 7})
		},
	}
	for _, first := range changes {
		for _, second := range changes {
			one := newPair(t, three()...)
			two := one.clone()
			mustBe(t, two.x, two.m)
			first(one)
			mustBe(t, two.x, two.m)
			second(two)
			mustBe(t, one.x, one.m)
			mustBe(t, two.x, two.m)
			three := two.clone()
			first(two)
			mustBe(t, three.x, three.m)
		}
	}
}

// TestTwinsGrowApart: both lay entries behind the same ones, with spare room of any size, some of it from a cut.
func TestTwinsGrowApart(t *testing.T) {
	for size := range 40 {
		for _, left := range []int{size, size / 2, 0} {
			one := newPair(t)
			for n := range size {
				one.add(t, api.Entry{Key: int64(n), At: int64(n)})
			}
			one.cut(t, left)
			two := one.clone()
			one.add(t, api.Entry{Key: 100, At: 100})
			two.add(t, api.Entry{Key: 200, At: 200})
			three := one.clone()
			one.add(t, api.Entry{Key: 101, At: 101})
			three.add(t, api.Entry{Key: 301, At: 301})
			for _, p := range []pair{one, two, three} {
				mustBe(t, p.x, p.m)
			}
		}
	}
}

func TestNil(t *testing.T) {
	var x *offidx.Index
	p := pair{x, &sheet{gone: true}}
	for range 2 {
		for _, key := range edges() {
			p.find(t, key)
			for _, at := range edges() {
				p.add(t, api.Entry{Key: key, At: at})
			}
		}
		for _, n := range numbers(0) {
			p.cut(t, n)
		}
		mustBe(t, p.x, p.m)
		if x.Clone() != nil {
			t.Error("P10.7: a clone of nil is not nil")
		}
	}
	if x.Add(api.Entry{}) != api.OK || x.Add(api.Entry{}) != api.OK || x.Add(api.Entry{Key: -1, At: 7}) != api.ErrOrder || x.Len() != 0 {
		t.Error("P10.7: a nil index keeps entries, or answers other than an empty one")
	}
	if x.Cut(0) != api.OK || x.Cut(1) != api.ErrRange || x.Cut(-1) != api.ErrRange {
		t.Error("P10.7: Cut of a nil index")
	}
	if e, ok, looks := x.Find(5); e != (api.Entry{}) || ok || looks != 0 {
		t.Errorf("P10.7: Find in a nil index answers %v, %t, %d", e, ok, looks)
	}
}

func TestZeroIsAsNew(t *testing.T) {
	for _, x := range []*offidx.Index{{}, new(offidx.Index), offidx.New(), offidx.New().Clone()} {
		p := pair{x, &sheet{}}
		mustBe(t, p.x, p.m)
		p.find(t, 5)
		p.cut(t, 0)
		p.cut(t, 1)
		twin := p.clone()
		if twin.x == nil {
			t.Fatal("P10.7: a clone of an empty index is nil")
		}
		for _, e := range append(three(), three()...) {
			p.add(t, e)
		}
		mustBe(t, p.x, p.m)
		mustBe(t, twin.x, twin.m)
	}
}

// TestAnswersAreApart writes over the lists that are answered, and into their spare room.
func TestAnswersAreApart(t *testing.T) {
	p := newPair(t, three()...)
	p.cut(t, 2)
	first, second := p.x.Entries(), p.x.Entries()
	overwrite(first)
	if !slices.Equal(second, p.m.entries) {
		t.Errorf("R3: two answers share memory: %v", second)
	}
	mustBe(t, p.x, p.m)
	p.add(t, api.Entry{Key: 7, At: 700})
	overwrite(second)
	mustBe(t, p.x, p.m)

	s := offidx.Put(three()...)
	read, _ := offidx.Read(s)
	overwrite(read)
	if again, _ := offidx.Read(s); !slices.Equal(again, three()) {
		t.Errorf("R3: two answers share memory: %v", again)
	}
}

func overwrite(list []api.Entry) {
	list = list[:cap(list)]
	for i := range list {
		list[i] = api.Entry{Key: -7, At: -7}
	}
}

// TestHandedInStays: Put leaves its list as it is, spare room too.
func TestHandedInStays(t *testing.T) {
	list := append(three(), api.Entry{Key: 1, At: 1})
	s := offidx.Put(list[:2]...)
	if !slices.Equal(list, append(three(), api.Entry{Key: 1, At: 1})) {
		t.Errorf("R3: what was handed in is changed: %v", list)
	}
	overwrite(list)
	if s != chapterBytes(three()[:2]) {
		t.Errorf("R3: what was answered is changed: %x", s)
	}
}
