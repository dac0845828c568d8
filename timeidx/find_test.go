package timeidx_test

import (
	"math"
	"testing"

	"gantry/api"
	"gantry/timeidx"
)

func TestFindExamples(t *testing.T) {
	p := newPair(t, three()...)
	for _, c := range []struct {
		time int64
		want api.Entry
		ok   bool
	}{
		{math.MinInt64, api.Entry{}, false},
		{-1, api.Entry{}, false},
		{5, api.Entry{}, false},
		{6, api.Entry{Key: 5, At: 11}, true},
		{7, api.Entry{Key: 5, At: 11}, true},
		{8, api.Entry{Key: 7, At: 20}, true},
		{math.MaxInt64, api.Entry{Key: 7, At: 20}, true},
	} {
		e, probes, ok := p.x.Find(c.time)
		if e != c.want || ok != c.ok || probes < 1 || probes > 3 {
			t.Errorf("P11.4: Find(%d) answers %v, %d, %t", c.time, e, probes, ok)
		}
	}
}

func TestFindInNone(t *testing.T) {
	emptied := newPair(t, three()...)
	emptied.cut(t, 0)
	for _, time := range edges() {
		newPair(t).find(t, time)
		emptied.find(t, time)
	}
}

// TestFindEveryTime: all lengths to some 300, times that several entries share, and every time from ahead of the first entry to behind the last.
func TestFindEveryTime(t *testing.T) {
	for _, alike := range []int{1, 2, 5} {
		p := newPair(t)
		for n := range 300 {
			for time := int64(-12); time < int64(3*n/alike)+6; time++ {
				if n < 50 || time%7 == int64(n%7) {
					p.find(t, time)
				}
			}
			p.push(t, api.Entry{Key: int64(n/alike*3) - 10, At: int64(n)})
		}
	}
}

// TestFindAmongAlike: entries that all have one time are all below a later one, and none below that time or an earlier one.
func TestFindAmongAlike(t *testing.T) {
	for _, key := range edges() {
		p := newPair(t)
		for n := range 40 {
			p.push(t, api.Entry{Key: key, At: int64(n)})
			for _, time := range append(edges(), key, max(key, math.MinInt64+1)-1, min(key, math.MaxInt64-1)+1) {
				p.find(t, time)
			}
		}
	}
}

// TestFindProbes: lengths about the powers of two, where the logarithm's whole part grows, and long ones.
func TestFindProbes(t *testing.T) {
	x := timeidx.New()
	for n := 1; n <= 1<<16+1; n++ {
		x.Append(api.Entry{Key: int64(2 * n), At: int64(n)})
		if n > 40 && n&(n-1) != 0 && n&(n+1) != 0 && (n-1)&(n-2) != 0 {
			continue
		}
		most := mostProbes(n)
		for i := 0; i <= n+1; i++ {
			e, probes, ok := x.Find(int64(2*i + 1))
			if i == 0 && (ok || e != api.Entry{}) || i > 0 && (!ok || e.At != int64(min(i, n))) {
				t.Fatalf("P11.4: %d entries: Find(%d) answers %v, %t", n, 2*i+1, e, ok)
			}
			if probes < 1 || probes > most {
				t.Fatalf("P11.4: %d entries: Find(%d) looks at %d, at most %d are allowed", n, 2*i+1, probes, most)
			}
		}
	}
}

func TestFindGreatNumbers(t *testing.T) {
	p := newPair(t, api.Entry{Key: math.MinInt64}, api.Entry{Key: math.MinInt64 + 1, At: 1}, api.Entry{Key: -1 << 32, At: 1 << 33}, api.Entry{Key: api.MostOffset, At: api.MostOffset}, api.Entry{Key: math.MaxInt64, At: math.MaxInt64})
	for _, time := range edges() {
		p.find(t, time)
	}
	if e, _, ok := p.x.Find(math.MaxInt64); e.Key != api.MostOffset || !ok {
		t.Errorf("P11.4: no time is above the greatest, so its entry is never found: %v, %t", e, ok)
	}
}
