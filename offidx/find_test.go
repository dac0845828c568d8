package offidx_test

import (
	"math"
	"testing"

	"gantry/api"
	"gantry/offidx"
)

func TestFindExamples(t *testing.T) {
	p := newPair(t, three()...)
	for _, c := range []struct {
		key  int64
		want api.Entry
		ok   bool
	}{
		{-1, api.Entry{}, false},
		{0, api.Entry{}, true},
		{4, api.Entry{}, true},
		{5, api.Entry{Key: 5, At: 300}, true},
		{99, api.Entry{Key: 5, At: 300}, true},
		{100, api.Entry{Key: 100, At: 900}, true},
		{1000000000, api.Entry{Key: 100, At: 900}, true},
	} {
		e, ok, looks := p.x.Find(c.key)
		if e != c.want || ok != c.ok || looks < 1 || looks > 3 {
			t.Errorf("P10.3: Find(%d) answers %v, %t, %d", c.key, e, ok, looks)
		}
	}
}

func TestFindInNone(t *testing.T) {
	emptied := newPair(t, three()...)
	emptied.cut(t, 0)
	for _, key := range edges() {
		newPair(t).find(t, key)
		emptied.find(t, key)
	}
}

// TestFindEveryKey: all lengths to some 300, and every key from ahead of the first entry to behind the last.
func TestFindEveryKey(t *testing.T) {
	p := newPair(t)
	for n := range 300 {
		for key := int64(-2); key < int64(3*n)+6; key++ {
			if n < 70 || key%7 == int64(n%7) {
				p.find(t, key)
			}
		}
		for _, key := range edges() {
			p.find(t, key)
		}
		p.add(t, api.Entry{Key: int64(3*n) + 2, At: int64(n)})
	}
}

// TestFindLooks: lengths about the powers of two, where the logarithm's whole part grows, and long ones.
func TestFindLooks(t *testing.T) {
	x := offidx.New()
	for n := 1; n <= 1<<16+1; n++ {
		x.Add(api.Entry{Key: int64(2 * n), At: int64(n)})
		if n > 40 && n&(n-1) != 0 && n&(n+1) != 0 && (n-1)&(n-2) != 0 {
			continue
		}
		most := mostLooks(n)
		for i := 0; i <= n+1; i++ {
			e, ok, looks := x.Find(int64(2*i + 1))
			if i == 0 && (ok || e != api.Entry{}) || i > 0 && (!ok || e.At != int64(min(i, n))) {
				t.Fatalf("P10.3: %d entries: Find(%d) answers %v, %t", n, 2*i+1, e, ok)
			}
			if looks < 1 || looks > most {
				t.Fatalf("P10.3: %d entries: Find(%d) looks at %d, at most %d are allowed", n, 2*i+1, looks, most)
			}
		}
	}
}

func TestFindGreatNumbers(t *testing.T) {
	p := newPair(t, api.Entry{Key: 1, At: 0}, api.Entry{Key: 1 << 32, At: 1 << 33}, api.Entry{Key: api.MostOffset, At: api.MostOffset}, api.Entry{Key: math.MaxInt64, At: math.MaxInt64})
	for _, key := range edges() {
		p.find(t, key)
	}
	for _, e := range p.x.Entries() {
		p.find(t, e.Key)
		p.find(t, e.Key-1)
	}
}
