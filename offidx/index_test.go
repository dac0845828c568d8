package offidx_test

import (
	"math"
	"testing"

	"gantry/api"
	"gantry/offidx"
)

// three answers the entries of the chapter's example.
func three() []api.Entry { return []api.Entry{{Key: 0, At: 0}, {Key: 5, At: 300}, {Key: 100, At: 900}} }

// edges answers numbers at the ends of what a Key or an At may be, and beyond.
func edges() []int64 {
	return []int64{math.MinInt64, math.MinInt64 + 1, -1 << 32, -2, -1, 0, 1, 2, 1<<32 - 1, 1 << 32, api.MostOffset, math.MaxInt64 - 1, math.MaxInt64}
}

func TestNew(t *testing.T) {
	x := offidx.New()
	if x == nil {
		t.Fatal("P10.1: New answers nil")
	}
	mustBe(t, x, &sheet{})
	x.Add(api.Entry{Key: 7, At: 7})
	mustBe(t, offidx.New(), &sheet{})
}

func TestAddExamples(t *testing.T) {
	x := offidx.New()
	for _, c := range []struct {
		e    api.Entry
		want api.Errno
	}{
		{api.Entry{Key: -1, At: 7}, api.ErrOrder},
		{api.Entry{Key: 7, At: -1}, api.ErrOrder},
		{api.Entry{Key: 0, At: 0}, api.OK},
		{api.Entry{Key: 0, At: 0}, api.ErrOrder},
		{api.Entry{Key: 0, At: 5}, api.ErrOrder},
		{api.Entry{Key: 5, At: 0}, api.ErrOrder},
		{api.Entry{Key: -5, At: 5}, api.ErrOrder},
		{api.Entry{Key: 5, At: -5}, api.ErrOrder},
		{api.Entry{Key: 5, At: 300}, api.OK},
		{api.Entry{Key: 4, At: 301}, api.ErrOrder},
		{api.Entry{Key: 6, At: 299}, api.ErrOrder},
		{api.Entry{Key: 100, At: 900}, api.OK},
	} {
		if e := x.Add(c.e); e != c.want {
			t.Errorf("P10.2: Add(%v) answers %d, not %d", c.e, e, c.want)
		}
	}
	mustBe(t, x, &sheet{entries: three()})
}

// TestAddEdges: every entry of numbers at the edges, as the first one and behind every other of them.
func TestAddEdges(t *testing.T) {
	for _, key := range edges() {
		for _, at := range edges() {
			first := api.Entry{Key: key, At: at}
			p := newPair(t)
			p.add(t, first)
			mustBe(t, p.x, p.m)
			for _, key := range edges() {
				for _, at := range edges() {
					twin := p.clone()
					twin.add(t, api.Entry{Key: key, At: at})
					mustBe(t, twin.x, twin.m)
				}
			}
		}
	}
}

// TestAddBehindCut: the order is held against the entry that is the last one now, not against those that were cut away.
func TestAddBehindCut(t *testing.T) {
	p := newPair(t, three()...)
	p.cut(t, 2)
	p.add(t, api.Entry{Key: 5, At: 301})
	p.add(t, api.Entry{Key: 6, At: 300})
	p.add(t, api.Entry{Key: 6, At: 301})
	mustBe(t, p.x, p.m)
	p.cut(t, 0)
	p.add(t, api.Entry{Key: -1, At: 0})
	p.add(t, api.Entry{Key: 0, At: -1})
	p.add(t, api.Entry{Key: 0, At: 0})
	mustBe(t, p.x, p.m)
}

func TestEntryOfEachNumber(t *testing.T) {
	p := newPair(t)
	for n := range 40 {
		mustBe(t, p.x, p.m)
		for i := -2; i < n+3; i++ {
			mustEntry(t, p.x, p.m, i)
		}
		p.add(t, api.Entry{Key: int64(n * 3), At: int64(n * 50)})
	}
}

func TestCutExamples(t *testing.T) {
	p := newPair(t, three()...)
	if e := p.x.Cut(4); e != api.ErrRange {
		t.Errorf("P10.4: Cut(4) answers %d", e)
	}
	if e := p.x.Cut(-1); e != api.ErrRange {
		t.Errorf("P10.4: Cut(-1) answers %d", e)
	}
	mustBe(t, p.x, p.m)
	if e := p.x.Cut(1); e != api.OK || p.x.Len() != 1 {
		t.Errorf("P10.4: Cut(1) answers %d, and leaves %d", e, p.x.Len())
	}
	if e, ok := p.x.Last(); e != (api.Entry{}) || !ok {
		t.Errorf("P10.4: Last is %v, %t", e, ok)
	}
}

func TestCutEveryNumber(t *testing.T) {
	for length := range 20 {
		for _, n := range append(numbers(length), length/2, length/3, length-2) {
			p := newPair(t)
			for i := range length {
				p.add(t, api.Entry{Key: int64(i), At: int64(2 * i)})
			}
			p.cut(t, n)
			mustBe(t, p.x, p.m)
			p.find(t, int64(length))
			// What was cut away is gone: no later call brings it back.
			p.cut(t, length)
			mustBe(t, p.x, p.m)
		}
	}
}
