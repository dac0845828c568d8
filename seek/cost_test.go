package seek_test

import (
	"math/rand/v2"
	"strconv"
	"testing"

	"gantry/api"
	"gantry/seek"
)

// TestCost holds the meters of long logs against their bounds: with frames of one size and of very many, with an entry for each frame, for some and for none.
func TestCost(t *testing.T) {
	dice := rand.New(rand.NewPCG(16, 6))
	sizes := map[string]func(i int) int{
		"least":   func(int) int { return 58 },
		"mixed":   func(int) int { return 58 + dice.IntN(900) },
		"one big": func(i int) int { return 58 + 9000*(i%300/299) },
	}
	for kind, size := range sizes {
		for _, every := range []int{1, 59, 1000, 20000, api.MostSegment} {
			for _, segment := range []int{1, 10000, api.MostSegment} {
				name := kind + " frames, Every " + strconv.Itoa(every) + ", Segment " + strconv.Itoa(segment)
				c := api.Config{Segment: segment, Frame: 10000, Plain: 10000, Every: every, Room: 1 << 30, First: 1000}
				var frames []string
				for i := range 600 {
					frames = append(frames, sized(t, size(i), int64(i)+dice.Int64N(40)))
				}
				l, d := logOf(t, c, frames...)
				m := flatOf(t, d, c)
				m.expectFind(t, name, l, d)
				m.expectTime(t, name, l, d)
				m.expectFetch(t, name, l, d, 1000, 1299, 1300, 1000+dice.Int64N(600), 1599, 1600)
			}
		}
	}
}

// TestProbes: in logs whose indexes have from none up to many entries, one segment's index is asked as often as P16.6 allows at most.
func TestProbes(t *testing.T) {
	c := config()
	c.Every, c.Segment = 1, api.MostSegment
	l, _ := logOf(t, c)
	for n := range 300 {
		add(t, l, sized(t, 58, int64(n)))
		// All frames but the first have an entry.
		for o := int64(0); o <= int64(n); o++ {
			_, m, _ := seek.Find(l, 5+o)
			_, f, _ := seek.Fetched(l, 5+o, 100)
			_, at, _ := seek.Timed(l, o)
			if m.Probes > probes(n) || f.Probes > probes(n) || at.Probes > 2*probes(n) {
				t.Fatalf("P16.6: of %d entries %d, %d and %d are looked at", n, m.Probes, f.Probes, at.Probes)
			}
			if n > 0 && (m.Probes == 0 || f.Probes == 0 || at.Probes == 0) {
				t.Fatalf("P16.6: of %d entries none are told", n)
			}
		}
	}
}

// TestProbesAreLayer13s: the meter tells the looks that the segment tells.
func TestProbesAreLayer13s(t *testing.T) {
	l, _, hits := seven(t)
	for _, h := range hits {
		for o := h.Base; o < h.Base+int64(h.Count); o++ {
			_, want := l.Segment(h.Segment).Place(o)
			if _, m, _ := seek.Find(l, o); m.Probes != want {
				t.Errorf("Words: Find(%d) tells %d looks, want %d", o, m.Probes, want)
			}
			if _, m, _ := seek.Fetched(l, o, 1000); m.Probes != want {
				t.Errorf("Words: Fetched(%d) tells %d looks, want %d", o, m.Probes, want)
			}
		}
		_, want := l.Segment(h.Segment).PlaceTime(h.Greatest)
		if _, m, _ := seek.Timed(l, h.Greatest); m.Probes != want {
			t.Errorf("Words: Timed(%d) tells %d looks, want %d", h.Greatest, m.Probes, want)
		}
	}
}

// TestMeterIsTheSame: the same call costs the same again.
func TestMeterIsTheSame(t *testing.T) {
	l, _, _ := seven(t)
	for o := int64(5); o < 14; o++ {
		_, a, _ := seek.Fetched(l, o, 200)
		_, b, _ := seek.Fetched(l, o, 200)
		_, c, _ := seek.Timed(l, o-5)
		_, d, _ := seek.Timed(l, o-5)
		if a != b || c != d {
			t.Errorf("R2: at %d: %+v and %+v, %+v and %+v", o, a, b, c, d)
		}
	}
}
