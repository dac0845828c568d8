package names_test

import (
	"math"
	"math/rand/v2"
	"slices"
	"strings"
	"testing"

	"gantry/api"
	"gantry/names"
)

func pick[T any](dice *rand.Rand, of []T) T { return of[dice.IntN(len(of))] }

// someText answers a good name of few bases or of any, a name with one byte other, or a stray one.
func someText(dice *rand.Rand) string {
	base := dice.Int64N(4)
	if dice.IntN(3) == 0 {
		base = dice.Int64N(api.MostOffset+1) >> dice.IntN(62)
	}
	name, _ := chapterName(base, names.Kind(dice.IntN(3)))
	switch dice.IntN(6) {
	case 0:
		b := []byte(name)
		b[dice.IntN(len(b))] = pick(dice, []byte("0123456789.+- glof\x00\xff"))
		return string(b)
	case 1:
		return pick(dice, strays())
	}
	return name
}

func someTexts(dice *rand.Rand, most int) []string {
	list := make([]string, dice.IntN(most+1))
	for i := range list {
		list[i] = someText(dice)
	}
	return list
}

func sameGroup(t *testing.T, list []string) {
	t.Helper()
	before := slices.Clone(list)
	segments, stray := names.Group(list)
	wantSegments, wantStray := chapterGroup(before)
	if !slices.Equal(segments, wantSegments) || !slices.Equal(stray, wantStray) {
		t.Errorf("P9.3: Group(%q) is %v, %q; wanted %v, %q", before, segments, stray, wantSegments, wantStray)
	}
	if !slices.Equal(list, before) {
		t.Errorf("P9.3: the names are %q now, not %q", list, before)
	}
}

func TestGroupExample(t *testing.T) {
	list := []string{"00000000000000000007.off", "x", "00000000000000000000.log", "00000000000000000007.log", "x"}
	segments, stray := names.Group(list)
	if !slices.Equal(segments, []names.Segment{{Base: 0, Has: [3]bool{true, false, false}}, {Base: 7, Has: [3]bool{true, true, false}}}) {
		t.Errorf("P9.3: %v", segments)
	}
	if !slices.Equal(stray, []string{"x", "x"}) {
		t.Errorf("P9.3: %q", stray)
	}
}

func TestGroupTable(t *testing.T) {
	const log0, off0, tim0 = "00000000000000000000.log", "00000000000000000000.off", "00000000000000000000.tim"
	const most = "04611686018427387904"
	for _, list := range [][]string{
		nil, {}, {""}, {"", ""}, {"x"}, {log0}, {off0}, {tim0}, {tim0, off0, log0}, {log0, log0, log0}, {off0, log0, off0},
		{most + ".log", log0}, {most + ".tim", most + ".off", most + ".log"}, {"04611686018427387905.log"},
		{"00000000000000000010.log", "00000000000000000009.log", "00000000000000000100.tim"},
		{"b", "", "a", "B", "\xff", "aa", "a", "\x00", "é", "z", "10", "9"},
		{"0", log0, "00000000000000000000.lof", "00000000000000000000.log ", off0, "00000000000000000000", tim0},
		strays(), append(strays(), strays()...),
	} {
		sameGroup(t, list)
		sameGroup(t, reversed(list))
	}
}

func reversed(list []string) []string {
	out := slices.Clone(list)
	slices.Reverse(out)
	return out
}

// TestGroupEverySet: every set of the six names of two bases, with a stray one amid, told from both ends.
func TestGroupEverySet(t *testing.T) {
	for set := range 1 << 7 {
		var list []string
		for i := range 7 {
			if set>>i&1 == 0 {
				continue
			}
			name := "00000000000000000001.lot"
			if i < 6 {
				name, _ = chapterName(int64(i/3)+1, names.Kind(i%3))
			}
			list = append(list, name)
		}
		sameGroup(t, list)
		sameGroup(t, reversed(list))
		sameGroup(t, slices.Concat(list, reversed(list)))
	}
}

func TestGroupDice(t *testing.T) {
	dice := rand.New(rand.NewPCG(9, 4))
	for range 3000 {
		sameGroup(t, someTexts(dice, 30))
	}
}

// TestGroupOrderIsPassedOver: what is answered hangs on which names there are, not on their order.
func TestGroupOrderIsPassedOver(t *testing.T) {
	dice := rand.New(rand.NewPCG(9, 5))
	for range 200 {
		list := someTexts(dice, 20)
		segments, stray := names.Group(list)
		dice.Shuffle(len(list), func(i, j int) { list[i], list[j] = list[j], list[i] })
		again, strayAgain := names.Group(list)
		if !slices.Equal(segments, again) || !slices.Equal(stray, strayAgain) {
			t.Fatalf("P9.3: %q is told in two ways: %v, %q and %v, %q", list, segments, stray, again, strayAgain)
		}
	}
}

// TestGroupMemory: the names and the room behind them stay as they are, and neither list that is answered lies in them or in what another call answered.
func TestGroupMemory(t *testing.T) {
	whole := []string{"x", "00000000000000000007.log", "b", "00000000000000000000.log", "a", "spare", "00000000000000000001.tim"}
	before := slices.Clone(whole)
	list := whole[:5]
	segments, stray := names.Group(list)
	again, strayAgain := names.Group(list)
	overwrite(segments, names.Segment{Base: 99})
	overwrite(stray, "changed")
	if !slices.Equal(whole, before) {
		t.Errorf("P9.3: what was handed in is %q, not %q", whole, before)
	}
	if !slices.Equal(again, []names.Segment{{Base: 0, Has: [3]bool{true}}, {Base: 7, Has: [3]bool{true}}}) || !slices.Equal(strayAgain, []string{"a", "b", "x"}) {
		t.Errorf("P9.3: another answer is %v, %q now", again, strayAgain)
	}
	onlyStray := []string{"c", "b", "a"}
	_, stray = names.Group(onlyStray)
	overwrite(stray, "changed")
	if !slices.Equal(onlyStray, []string{"c", "b", "a"}) {
		t.Errorf("P9.3: what was handed in is %q", onlyStray)
	}
}

// overwrite writes over a list and over its spare room.
func overwrite[T any](list []T, with T) {
	for i := range list[:cap(list)] {
		list[:cap(list)][i] = with
	}
}

// TestGroupMany: of as many files as a disk may have, and more, in no order.
func TestGroupMany(t *testing.T) {
	const segments = 100_000
	var list []string
	for i := range int64(segments) {
		for kind := range names.Kind(3) {
			name, _ := names.Name(i*i, kind)
			list = append(list, name)
		}
		list = append(list, "stray"+strings.Repeat("y", int(i%7)))
	}
	dice := rand.New(rand.NewPCG(9, 6))
	dice.Shuffle(len(list), func(i, j int) { list[i], list[j] = list[j], list[i] })
	got, stray := names.Group(list)
	if len(got) != segments || len(stray) != segments || !slices.IsSorted(stray) {
		t.Fatalf("P9.3: %d segments and %d strays", len(got), len(stray))
	}
	for i, s := range got {
		if s.Base != int64(i)*int64(i) || !s.Whole() {
			t.Fatalf("P9.3: segment %d is %v", i, s)
		}
	}
	if next, ok := names.Next(16, got); next != 25 || !ok {
		t.Errorf("P9.4: %d, %t", next, ok)
	}
}

func TestWhole(t *testing.T) {
	for set := range 8 {
		s := names.Segment{Base: int64(set) - 3, Has: [3]bool{set&1 != 0, set&2 != 0, set&4 != 0}}
		if s.Whole() != (set == 7) {
			t.Errorf("P9.4: Whole of %v is %t", s, s.Whole())
		}
	}
}

func TestNextExamples(t *testing.T) {
	segments, _ := names.Group([]string{"00000000000000000007.off", "x", "00000000000000000000.log", "00000000000000000007.log", "x"})
	for _, x := range []struct {
		base, next int64
		ok         bool
	}{{0, 7, true}, {7, 0, false}, {-5, 0, true}, {6, 7, true}, {8, 0, false}, {math.MinInt64, 0, true}, {math.MaxInt64, 0, false}} {
		if next, ok := names.Next(x.base, segments); next != x.next || ok != x.ok {
			t.Errorf("P9.4: Next(%d) is %d, %t; wanted %d, %t", x.base, next, ok, x.next, x.ok)
		}
	}
}

func sameNext(t *testing.T, base int64, segments []names.Segment) {
	t.Helper()
	before := slices.Clone(segments)
	next, ok := names.Next(base, segments)
	want, wantOK := chapterNext(base, before)
	if next != want || ok != wantOK {
		t.Errorf("P9.4: Next(%d, %v) is %d, %t; wanted %d, %t", base, before, next, ok, want, wantOK)
	}
	if !slices.Equal(segments, before) {
		t.Errorf("P9.4: the segments are %v now, not %v", segments, before)
	}
}

// nextBases answers bases of which a list that is handed in may have any, good or not.
func nextBases() []int64 {
	return []int64{math.MinInt64, math.MinInt64 + 1, -2, -1, 0, 1, 2, 7, api.MostOffset - 1, api.MostOffset, api.MostOffset + 1, math.MaxInt64 - 1, math.MaxInt64}
}

// TestNextEdges: lists of none, one and two segments at the edges, with the log file there, or all but that.
func TestNextEdges(t *testing.T) {
	hass := [][3]bool{{true, false, false}, {false, true, true}}
	for _, base := range nextBases() {
		sameNext(t, base, nil)
		sameNext(t, base, []names.Segment{})
		for _, first := range nextBases() {
			for _, has := range hass {
				sameNext(t, base, []names.Segment{{Base: first, Has: has}})
				for _, second := range nextBases() {
					sameNext(t, base, []names.Segment{{Base: first, Has: has}, {Base: second, Has: [3]bool{true, true, true}}})
				}
			}
		}
	}
}

// TestNextDice: segments in any order, some of them twice, one with its log file and one without.
func TestNextDice(t *testing.T) {
	dice := rand.New(rand.NewPCG(9, 7))
	for range 5000 {
		segments := make([]names.Segment, dice.IntN(8))
		for i := range segments {
			base := dice.Int64N(12) - 3
			if dice.IntN(6) == 0 {
				base = pick(dice, nextBases())
			}
			segments[i] = names.Segment{Base: base, Has: [3]bool{dice.IntN(2) == 0, dice.IntN(2) == 0, dice.IntN(2) == 0}}
		}
		sameNext(t, dice.Int64N(14)-4, segments)
		sameNext(t, pick(dice, nextBases()), segments)
	}
}
