package timeidx_test

import (
	"testing"

	"gantry/api"
	"gantry/timeidx"
)

// TestCloneIsApart does to one of two twins whatever changes an index, and looks at both.
func TestCloneIsApart(t *testing.T) {
	changes := []func(p pair){
		func(p pair) { p.push(t, api.Entry{Key: 7, At: 1000}) },
		func(p pair) { p.push(t, api.Entry{Key: 300, At: 2000}) },
		func(p pair) { p.cut(t, 0) },
		func(p pair) { p.cut(t, 2) },
		func(p pair) {
			p.cut(t, 1)
			p.push(t, api.Entry{Key: 6, At: 17})
		},
	}
	for _, first := range changes {
		for _, second := range changes {
			one := newPair(t, three()...)
			two := one.clone()
			mustBe(t, two.x, two.m)
			first(one)
			mustBe(t, two.x, two.m)
			second(two)
			mustBe(t, one.x, one.m)
			mustBe(t, two.x, two.m)
			third := two.clone()
			first(two)
			mustBe(t, third.x, third.m)
		}
	}
}

// TestTwinsGrowApart: both lay entries behind the same ones, with spare room of any size, some of it from a cut.
func TestTwinsGrowApart(t *testing.T) {
	for size := range 40 {
		for _, left := range []int{size, size / 2, 0} {
			one := newPair(t)
			for n := range size {
				one.push(t, api.Entry{Key: int64(n / 2), At: int64(n)})
			}
			one.cut(t, left)
			two := one.clone()
			one.push(t, api.Entry{Key: 100, At: 100})
			two.push(t, api.Entry{Key: 200, At: 200})
			third := one.clone()
			one.push(t, api.Entry{Key: 101, At: 101})
			third.push(t, api.Entry{Key: 301, At: 301})
			for _, p := range []pair{one, two, third} {
				mustBe(t, p.x, p.m)
			}
		}
	}
}

func TestNil(t *testing.T) {
	var x *timeidx.Index
	p := pair{x, &sheet{gone: true}}
	for range 2 {
		for _, key := range edges() {
			p.find(t, key)
			for _, at := range edges() {
				p.push(t, api.Entry{Key: key, At: at})
			}
		}
		for _, n := range numbers(0) {
			p.cut(t, n)
		}
		mustBe(t, p.x, p.m)
		if x.Clone() != nil {
			t.Error("P11.6: a clone of nil is not nil")
		}
	}
	if x.Append(api.Entry{}) != api.ErrNone || x.Append(api.Entry{Key: 9, At: 9}) != api.ErrNone || x.Append(api.Entry{At: -1}) != api.ErrRange || x.Len() != 0 {
		t.Error("P11.6: Append to a nil index")
	}
	if x.Cut(0) != api.OK || x.Cut(1) != api.ErrRange || x.Cut(-1) != api.ErrRange {
		t.Error("P11.6: Cut of a nil index")
	}
	if e, probes, ok := x.Find(5); e != (api.Entry{}) || ok || probes != 0 {
		t.Errorf("P11.6: Find in a nil index answers %v, %d, %t", e, probes, ok)
	}
	if x.Bytes() != "" {
		t.Errorf("P11.6: a nil index has the bytes %x", x.Bytes())
	}
}

func TestZeroIsAsNew(t *testing.T) {
	for _, x := range []*timeidx.Index{{}, new(timeidx.Index), timeidx.New(), timeidx.New().Clone()} {
		p := pair{x, &sheet{}}
		mustBe(t, p.x, p.m)
		p.find(t, 5)
		p.cut(t, 0)
		p.cut(t, 1)
		twin := p.clone()
		if twin.x == nil {
			t.Fatal("P11.6: a clone of an empty index is nil")
		}
		for _, e := range append(three(), three()...) {
			p.push(t, e)
		}
		mustBe(t, p.x, p.m)
		mustBe(t, twin.x, twin.m)
	}
}
