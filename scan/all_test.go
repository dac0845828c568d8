package scan_test

import (
	"encoding/binary"
	"fmt"
	"math"
	"slices"
	"strings"
	"testing"

	"gantry/api"
	"gantry/batch"
	"gantry/crc"
	"gantry/record"
	"gantry/scan"
)

func TestAllExamples(t *testing.T) {
	f, g := pair(t)
	first := scan.Found{Head: api.Head{Base: 5, Length: 70, Count: 2, First: 9, Greatest: 9, Producer: 8, Seq: 2}}
	second := scan.Found{Head: api.Head{Base: 7, Length: 58, Count: 1, Producer: -1, Seq: -1}, At: 70}
	alone := second
	alone.At = 0
	for _, c := range []struct {
		name string
		src  string
		base int64
		list []scan.Found
		end  int
		why  api.Errno
	}{
		{"F G", f + g, 5, []scan.Found{first, second}, 128, api.OK},
		{"F G by another base", f + g, 0, nil, 0, api.ErrOrder},
		{"G F", g + f, 7, []scan.Found{alone}, 58, api.ErrOrder},
		{"G cut", f + g[:10], 5, []scan.Found{first}, 70, api.ErrShort},
		{"G turned", turned(f+g, 127, 1), 5, []scan.Found{first}, 70, api.ErrSum},
		{"nothing", "", 9, nil, 0, api.OK},
	} {
		list, end, why := scan.All(c.src, c.base, api.MostFrame, api.MostPlain)
		if !slices.Equal(list, c.list) || end != c.end || why != c.why {
			t.Errorf("P12.1: %s: %+v, %d, %d", c.name, list, end, why)
		}
		expectEnd(t, c.name, c.src, c.base, len(c.list), c.why)
	}
}

// TestAllOrder: right frames that leave offsets out, come again, or go back.
func TestAllOrder(t *testing.T) {
	ahead := least(t, 10, 3)
	for base := int64(0); base < 20; base++ {
		for _, behind := range []string{"", least(t, base+1, 1), "x"} {
			want, why := 1, api.ErrOrder
			if base == 13 {
				want, why = 2, api.OK
				if behind == "x" {
					why = api.ErrShort
				} else if behind != "" {
					want = 3
				}
			}
			expectEnd(t, fmt.Sprint("a frame of ", base), ahead+least(t, base, 1)+behind, 10, want, why)
		}
	}
	expectEnd(t, "twice", ahead+ahead, 10, 1, api.ErrOrder)
}

// TestAllBases: the first base that is wanted, also one that no frame can have.
func TestAllBases(t *testing.T) {
	f, g := pair(t)
	for _, base := range []int64{math.MinInt64, -1, 0, 4, 6, 7, 1 << 32, 5 | 1<<32, api.MostOffset - 1, api.MostOffset, api.MostOffset + 5, math.MaxInt64} {
		name := fmt.Sprint("the base ", base)
		expectEnd(t, name, f+g, base, 0, api.ErrOrder)
		expectEnd(t, name, "", base, 0, api.OK)
		expectEnd(t, name, f[:50], base, 0, api.ErrShort)
		expectEnd(t, name, turned(f, 12, 1), base, 0, api.ErrBatch)
		expectEnd(t, name, "\xff\xff\xff\xff\xff\xff\xff\xff"+f[8:], base, 0, api.ErrBatch)
	}
}

// TestAllLastOffsets: behind the last offset that there is no frame is right.
func TestAllLastOffsets(t *testing.T) {
	one, two := least(t, api.MostOffset-3, 1), least(t, api.MostOffset-2, 2)
	expectEnd(t, "the last", one+two, api.MostOffset-3, 2, api.OK)
	expectEnd(t, "the last, and more", one+two+one, api.MostOffset-3, 2, api.ErrOrder)
	beyond := string(binary.BigEndian.AppendUint64(nil, api.MostOffset)) + one[8:]
	expectEnd(t, "beyond the last", one+two+beyond, api.MostOffset-3, 2, api.ErrBatch)
	expectEnd(t, "beyond the last, wanted", beyond, api.MostOffset, 0, api.ErrBatch)
	expectEnd(t, "0 behind the last", one+two+least(t, 0, 1), api.MostOffset-3, 2, api.ErrOrder)
}

// sealed answers a frame with the length and the sum that its bytes make.
func sealed(s string) string {
	out := s[:8] + string(binary.BigEndian.AppendUint32(nil, uint32(len(s)-12))) + s[12:]
	return out[:13] + string(binary.BigEndian.AppendUint32(nil, crc.Sum(out[17:]))) + out[17:]
}

// wrongs answers frames of the base 7 that Check refuses, each with its error.
func wrongs(t *testing.T) map[string]api.Errno {
	_, g := pair(t)
	packed := encoded(t, api.Batch{Base: 7, Packed: true, Producer: -1, Seq: -1, Records: make([]api.Record, 9)})
	return map[string]api.Errno{
		g[:1]:                                api.ErrShort,
		g[:50]:                               api.ErrShort,
		g[:51]:                               api.ErrShort,
		g[:57]:                               api.ErrShort,
		packed[:len(packed)-1]:               api.ErrShort,
		strings.Repeat("\x00", 51):           api.ErrBatch,
		strings.Repeat("\xff", 200):          api.ErrBatch,
		turned(g, 12, 1):                     api.ErrBatch,
		turned(g, 8, 1):                      api.ErrBatch,
		turned(g, 0, 0x80):                   api.ErrBatch,
		turned(g, 9, 0x80):                   api.ErrShort,
		turned(g, 13, 1):                     api.ErrSum,
		turned(g, 57, 0x80):                  api.ErrSum,
		turned(packed, 55, 1):                api.ErrSum,
		turned(g, 11, 16) + g:                api.ErrSum,
		sealed(g + "\x00"):                   api.ErrLeft,
		sealed(turned(g, 52, 1)):             api.ErrRecord,
		sealed(turned(g, 54, 1)):             api.ErrDelta,
		sealed(turned(g, 38, 1)):             api.ErrBatch,
		sealed(turned(g, 51, 0x80)):          api.ErrVarint,
		sealed(turned(g, 22, 2)):             api.ErrShort,
		sealed(turned(packed, 54, 1)):        api.ErrPacked,
		sealed(packed + "\x00"):              api.ErrPacked,
		sealed(turned(packed, 51, 0x7f)):     api.ErrBig,
		sealed(turned(g, 55, 2) + "\x00abc"): api.ErrLong,
	}
}

// TestAllWhy: each of Check's errors behind no frame and behind some, with anything behind it.
func TestAllWhy(t *testing.T) {
	f, g := pair(t)
	for s, why := range wrongs(t) {
		if _, e := batch.Check(s, api.MostFrame, api.MostPlain); e != why {
			t.Errorf("Check of %x: %d, want %d", s, e, why)
		}
		name := fmt.Sprintf("%x", s)
		expectEnd(t, name, s, 7, 0, why)
		expectEnd(t, name, f+s, 5, 1, why)
		expectEnd(t, name, least(t, 4, 1)+f+s, 4, 2, why)
		expectEnd(t, name, f+g+s, 5, 2, why)
		// It is told ahead of a wrong order, and more frames behind it change nothing unless it was too short.
		expectEnd(t, name, least(t, 4, 1)+s, 4, 1, why)
		if why != api.ErrShort {
			expectEnd(t, name, f+s+g, 5, 1, why)
		}
	}
}

// TestAllLimits: frames at and about the limits, and limits that count as others.
func TestAllLimits(t *testing.T) {
	small := least(t, 0, 1)
	great := encoded(t, api.Batch{Base: 1, Producer: -1, Seq: -1, Records: []api.Record{{Value: some("0123456789")}}})
	body := len(great) - 51
	packed := encoded(t, api.Batch{Base: 2, Packed: true, Producer: -1, Seq: -1, Records: []api.Record{{Value: some(strings.Repeat("a", 100))}}})
	plainOf, _ := record.Size(api.Record{Value: some(strings.Repeat("a", 100))}, 0, 0)
	src := small + great + packed
	most := max(len(great), len(packed))
	for _, c := range []struct {
		frame, plain int
		count        int
		why          api.Errno
	}{
		{math.MinInt, math.MinInt, 1, api.ErrBig},
		{-1, 1000, 1, api.ErrBig},
		{0, 0, 1, api.ErrBig},
		{57, 6, 1, api.ErrBig},
		{58, 7, 1, api.ErrBig},
		{len(great) - 1, plainOf, 1, api.ErrBig},
		{most, body - 1, 1, api.ErrBig},
		{most, plainOf, 3, api.OK},
		{most - 1, plainOf, 2, api.ErrBig},
		{most, plainOf - 1, 2, api.ErrBig},
		{1000, 1000, 3, api.OK},
		{api.MostFrame + 1, api.MostPlain + 1, 3, api.OK},
		{math.MaxInt, math.MaxInt, 3, api.OK},
	} {
		for _, behind := range []string{"", "x", src} {
			why := c.why
			if why == api.OK && behind != "" {
				why = map[string]api.Errno{"x": api.ErrShort, src: api.ErrOrder}[behind]
			}
			if n, e := expectRun(t, "limits", src+behind, 0, c.frame, c.plain); n != c.count || e != why {
				t.Errorf("P12.1: frame %d, plain %d: %d frames, %d, want %d, %d", c.frame, c.plain, n, e, c.count, why)
			}
		}
	}
}

// TestAllBigAndShort: a frame that is too great and not whole is too great; one that is not whole alone is too short.
func TestAllBigAndShort(t *testing.T) {
	great := encoded(t, api.Batch{Base: 1, Producer: -1, Seq: -1, Records: []api.Record{{Value: some("0123456789")}}})
	src := least(t, 0, 1) + great
	for n := 58 + 51; n < len(src); n++ {
		if count, e := expectRun(t, "big and short", src[:n], 0, len(great)-1, 100); count != 1 || e != api.ErrBig {
			t.Errorf("P12.1: %d frames, %d", count, e)
		}
		if count, e := expectRun(t, "short", src[:n], 0, len(great), 100); count != 1 || e != api.ErrShort {
			t.Errorf("P12.1: %d frames, %d", count, e)
		}
	}
}

func TestAllMany(t *testing.T) {
	var src strings.Builder
	for n := range 3000 {
		src.WriteString(least(t, int64(2*n), 2))
	}
	expectEnd(t, "many", src.String(), 0, 3000, api.OK)
}

// TestAllAnswersApart writes over one answer, and into its spare room, and looks at another.
func TestAllAnswersApart(t *testing.T) {
	f, g := pair(t)
	first, _, _ := scan.All(f+g, 5, 1000, 1000)
	second, _, _ := scan.All(f+g, 5, 1000, 1000)
	clear(first[:cap(first)])
	if len(second) != 2 || second[0].Base != 5 || second[1].Base != 7 {
		t.Errorf("R3: two answers share memory: %+v", second)
	}
}
