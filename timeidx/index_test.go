package timeidx_test

import (
	"math"
	"testing"

	"gantry/api"
	"gantry/timeidx"
)

// three answers the entries of the chapter's example.
func three() []api.Entry { return []api.Entry{{Key: 5, At: 10}, {Key: 5, At: 11}, {Key: 7, At: 20}} }

// edges answers numbers at the ends of what a Key or an At may be, and beyond.
func edges() []int64 {
	return []int64{math.MinInt64, math.MinInt64 + 1, -1 << 32, -2, -1, 0, 1, 2, 1<<32 - 1, 1 << 32, api.MostOffset, math.MaxInt64 - 1, math.MaxInt64}
}

func TestNew(t *testing.T) {
	x := timeidx.New()
	if x == nil {
		t.Fatal("P11.1: New answers nil")
	}
	mustBe(t, x, &sheet{})
	x.Append(api.Entry{Key: 7, At: 7})
	mustBe(t, timeidx.New(), &sheet{})
}

func TestAppendExamples(t *testing.T) {
	x := timeidx.New()
	for _, c := range []struct {
		e    api.Entry
		want api.Errno
	}{
		{api.Entry{Key: 5, At: -1}, api.ErrRange},
		{api.Entry{Key: 5, At: 10}, api.OK},
		{api.Entry{Key: 5, At: 10}, api.ErrOrder},
		{api.Entry{Key: 6, At: 10}, api.ErrOrder},
		{api.Entry{Key: 4, At: 11}, api.ErrOrder},
		{api.Entry{Key: 5, At: 11}, api.OK},
		{api.Entry{Key: 7, At: 20}, api.OK},
		{api.Entry{Key: 6, At: 30}, api.ErrOrder},
		{api.Entry{Key: 9, At: 20}, api.ErrOrder},
		{api.Entry{Key: 9, At: 0}, api.ErrOrder},
		{api.Entry{Key: 9, At: -1}, api.ErrRange},
		// A wrong At is told ahead of a wrong order.
		{api.Entry{Key: 6, At: -1}, api.ErrRange},
		{api.Entry{Key: math.MinInt64, At: math.MinInt64}, api.ErrRange},
	} {
		if e := x.Append(c.e); e != c.want {
			t.Errorf("P11.2: Append(%v) answers %d, not %d", c.e, e, c.want)
		}
	}
	mustBe(t, x, &sheet{entries: three()})
}

// TestAppendAnyTime: a time may be any number, below 0 too, and stay the same from entry to entry.
func TestAppendAnyTime(t *testing.T) {
	p := newPair(t, api.Entry{Key: math.MinInt64}, api.Entry{Key: math.MinInt64, At: 1}, api.Entry{Key: -7, At: 2}, api.Entry{Key: -7, At: 3}, api.Entry{Key: 0, At: 4}, api.Entry{Key: math.MaxInt64, At: 5}, api.Entry{Key: math.MaxInt64, At: math.MaxInt64})
	mustBe(t, p.x, p.m)
}

// TestAppendEdges: every entry of numbers at the edges, as the first one and behind every other of them.
func TestAppendEdges(t *testing.T) {
	for _, key := range edges() {
		for _, at := range edges() {
			p := newPair(t)
			p.push(t, api.Entry{Key: key, At: at})
			mustBe(t, p.x, p.m)
			for _, key := range edges() {
				for _, at := range edges() {
					twin := p.clone()
					twin.push(t, api.Entry{Key: key, At: at})
					mustBe(t, twin.x, twin.m)
				}
			}
		}
	}
}

// TestAppendBehindCut: the order is held against the entry that is the last one now, not against those that were cut away.
func TestAppendBehindCut(t *testing.T) {
	p := newPair(t, three()...)
	p.cut(t, 2)
	p.push(t, api.Entry{Key: 6, At: 11})
	p.push(t, api.Entry{Key: 4, At: 12})
	p.push(t, api.Entry{Key: 5, At: 12})
	mustBe(t, p.x, p.m)
	p.cut(t, 0)
	p.push(t, api.Entry{Key: 0, At: -1})
	p.push(t, api.Entry{Key: -1, At: 0})
	mustBe(t, p.x, p.m)
}

func TestEntryOfEachNumber(t *testing.T) {
	p := newPair(t)
	for n := range 40 {
		mustBe(t, p.x, p.m)
		for i := -2; i < n+3; i++ {
			mustEntry(t, p.x, p.m, i)
		}
		p.push(t, api.Entry{Key: int64(n/2*3 - 9), At: int64(n * 50)})
	}
}

func TestCutExamples(t *testing.T) {
	p := newPair(t, three()...)
	if e := p.x.Cut(4); e != api.ErrRange {
		t.Errorf("P11.3: Cut(4) answers %d", e)
	}
	if e := p.x.Cut(-1); e != api.ErrRange {
		t.Errorf("P11.3: Cut(-1) answers %d", e)
	}
	mustBe(t, p.x, p.m)
	if e := p.x.Cut(1); e != api.OK || p.x.Len() != 1 {
		t.Errorf("P11.3: Cut(1) answers %d, and leaves %d", e, p.x.Len())
	}
	if e, ok := p.x.Last(); e != (api.Entry{Key: 5, At: 10}) || !ok {
		t.Errorf("P11.3: Last is %v, %t", e, ok)
	}
}

func TestCutEveryNumber(t *testing.T) {
	for length := range 20 {
		for _, n := range append(numbers(length), length/2, length/3, length-2) {
			p := newPair(t)
			for i := range length {
				p.push(t, api.Entry{Key: int64(i / 2), At: int64(2 * i)})
			}
			p.cut(t, n)
			mustBe(t, p.x, p.m)
			p.find(t, int64(length))
			// What was cut away is gone: no later call brings it back.
			p.cut(t, length)
			mustBe(t, p.x, p.m)
		}
	}
}
