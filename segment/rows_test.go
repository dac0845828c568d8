package segment_test

import (
	"math/rand/v2"
	"strconv"
	"strings"
	"testing"

	"gantry/api"
	"gantry/disk"
	"gantry/segment"
)

// dice chooses batches and what is done.
type dice struct {
	*rand.Rand
}

func newDice(seed uint64) dice { return dice{rand.New(rand.NewPCG(seed, 13))} }

func (d dice) batch(base int64) api.Batch {
	b := api.Batch{Base: base, Packed: d.IntN(2) == 0, Producer: -1, Seq: -1}
	if d.IntN(2) == 0 {
		b.Producer, b.Seq = int64(d.IntN(9)), int32(d.IntN(9))
	}
	for range 1 + d.IntN(4) {
		b.Records = append(b.Records, api.Record{Time: d.Int64N(60) - 30, Value: some(strings.Repeat("v", d.IntN(40)))})
	}
	return b
}

// TestRows goes through rows of calls: frames that are taken, that find no room, and that are refused; and the segment opened again, with a torn end and with index files that somebody has been at.
func TestRows(t *testing.T) {
	for seed := range uint64(60) {
		dice := newDice(seed)
		base := []int64{0, 10, 1 << 40, api.MostOffset - 1000}[dice.IntN(4)]
		h := shelf{room: 200 + dice.IntN(4000)}
		m := sheet{base, []int{1, 80, 200, 700}[dice.IntN(4)], nil}
		d := disk.New(h.room)
		s := m.made(t, newSpy(t, d))
		for step := range 40 {
			name := "row " + strconv.Itoa(int(seed)) + ", step " + strconv.Itoa(step)
			switch dice.IntN(8) {
			case 0:
				s = reopened(t, dice, name, m, d, &h)
			case 1:
				if e := s.Append(encoded(t, dice.batch(m.end()+1))); e != api.ErrOrder {
					t.Fatalf("P13.6: %s: %d", name, e)
				}
			default:
				frame := encoded(t, dice.batch(m.end()))
				want := api.ErrFull
				if h.append(&m, frame) {
					want = api.OK
				}
				if e := s.Append(frame); e != want {
					t.Fatalf("P13.6: %s: %d, want %d", name, e, want)
				}
			}
			expectFiles(t, "Words: "+name, d, base, h.log, h.off, h.tim)
		}
		m.expect(t, "row "+strconv.Itoa(int(seed)), s)
		m.expect(t, "row "+strconv.Itoa(int(seed))+", opened", m.opened(t, newSpy(t, d), true))
	}
}

// reopened harms the files of a segment, as far as it can be mended, and opens it again.
func reopened(t *testing.T, dice dice, name string, m sheet, d *disk.Disk, h *shelf) *segment.Segment {
	t.Helper()
	log := nameOf(m.base, ".log")
	if dice.IntN(2) == 0 {
		d.Append(log, "torn")
	}
	for _, file := range []string{nameOf(m.base, ".off"), nameOf(m.base, ".tim")} {
		switch dice.IntN(4) {
		case 0:
			d.Remove(file)
		case 1:
			d.Append(file, "junk that may fill the disk, or not")
		case 2:
			d.Cut(file, 0)
		}
	}
	s := m.opened(t, newSpy(t, d), true)
	m.expect(t, name+", opened", s)
	h.off, h.tim = "", ""
	offsets, times := m.entries()
	for i := range offsets {
		h.enter(offsets[i], times[i])
	}
	return s
}

func nameOf(base int64, ending string) string {
	number := strconv.FormatInt(base, 10)
	return strings.Repeat("0", 20-len(number)) + number + ending
}

// TestMany is a segment of many entries: how many are looked at is held against the bound.
func TestMany(t *testing.T) {
	m := sheet{10, 1, nil}
	d := disk.New(1 << 20)
	s := m.made(t, d)
	for n := range 300 {
		if e := s.Append(single(t, 10+int64(n), int64(n*n%97))); e != api.OK {
			t.Fatalf("P13.6: Append: %d", e)
		}
	}
	opened := m.opened(t, d, false)
	if len(s.Offsets()) != 299 || len(opened.Offsets()) != 299 {
		t.Fatalf("P13.8: %d entries, and opened %d", len(s.Offsets()), len(opened.Offsets()))
	}
	for n := int64(-5); n < 320; n++ {
		at, looks := s.Place(n)
		if want := max(0, min(n-10, 299)) * 60; at != int(want) || !fewLooks(looks, 299) {
			t.Errorf("P13.4: Place(%d): %d, %d", n, at, looks)
		}
		if a, l := opened.Place(n); a != at || l != looks {
			t.Errorf("P13.8: Place(%d), opened: %d, %d", n, a, l)
		}
		at, looks = s.PlaceTime(n)
		if looks < 1 || looks > 2*(2+8) {
			t.Errorf("P13.4: PlaceTime(%d): %d, %d", n, at, looks)
		}
		if a, l := opened.PlaceTime(n); a != at || l != looks {
			t.Errorf("P13.8: PlaceTime(%d), opened: %d, %d", n, a, l)
		}
	}
}

// TestSideBySide: two segments upon one disk know nothing of each other.
func TestSideBySide(t *testing.T) {
	d := disk.New(10000)
	one, two := sheet{10, 100, five(t)}, sheet{15, 50, []string{single(t, 15, 3), single(t, 16, 2)}}
	s, u := one.made(t, d), two.made(t, d)
	one.expect(t, "the first", s)
	two.expect(t, "the second", u)
	if e := u.Remove(); e != api.OK {
		t.Errorf("P13.7: Remove: %d", e)
	}
	one.expect(t, "the first, alone", s)
	off, tim := one.whole()
	expectFiles(t, "P13.7: the first, alone", d, 10, one.text(), off, tim)
}
