package power_test

import (
	"math"
	"math/rand/v2"
	"strconv"
	"strings"
	"testing"

	"gantry/api"
	"gantry/power"
)

func TestCheckTable(t *testing.T) {
	right := api.Fate{Name: "a", Keep: 4, Over: []api.Write{{At: 2, Data: "xy"}, {At: 3, Data: "z"}}}
	write := func(keep int, writes ...api.Write) []api.Fate {
		return []api.Fate{{Name: "a", Keep: keep, Over: writes}}
	}
	for _, c := range []struct {
		fates []api.Fate
		e     api.Errno
	}{
		{nil, api.OK},
		{[]api.Fate{right}, api.OK},
		{[]api.Fate{right, {Name: "b", Keep: 3}, {Name: "c"}}, api.OK},
		{[]api.Fate{{Name: "c"}, {Name: "a", Keep: 6}}, api.OK},
		{[]api.Fate{{}}, api.ErrName},
		{[]api.Fate{{Name: strings.Repeat("a", 256)}}, api.ErrName},
		{[]api.Fate{{Name: strings.Repeat("a", 255)}}, api.ErrNone},
		{[]api.Fate{{Name: "d"}}, api.ErrNone},
		{[]api.Fate{{Name: "A", Keep: 4}}, api.ErrNone},
		{[]api.Fate{right, right}, api.ErrFate},
		{[]api.Fate{right, {Name: "b", Keep: 3}, {Name: "a", Keep: 2}}, api.ErrFate},
		{write(1), api.ErrFate},
		{write(2), api.OK},
		{write(6), api.OK},
		{write(7), api.ErrFate},
		{write(-1), api.ErrFate},
		{write(math.MaxInt), api.ErrFate},
		{write(math.MinInt), api.ErrFate},
		{write(4, api.Write{At: 1}), api.ErrFate},
		{write(4, api.Write{At: 2}), api.OK},
		{write(4, api.Write{At: 4}), api.OK},
		{write(4, api.Write{At: 5}), api.ErrFate},
		{write(4, api.Write{At: 1, Data: "x"}), api.ErrFate},
		{write(4, api.Write{At: 3, Data: "x"}), api.OK},
		{write(4, api.Write{At: 3, Data: "xy"}), api.ErrFate},
		{write(4, api.Write{At: 2, Data: "xy"}, api.Write{At: 4, Data: "z"}), api.ErrFate},
		{write(2, api.Write{At: 2, Data: "long enough to lie ahead"}), api.ErrFate},
		{write(4, api.Write{At: math.MaxInt, Data: "xy"}), api.ErrFate},
		{write(4, api.Write{At: math.MinInt, Data: "xy"}), api.ErrFate},
	} {
		d := laid()
		want := sheetOf(t, d)
		if e := power.Check(d, c.fates...); e != c.e {
			t.Errorf("P8.4: Check of %v is %d, not %d", c.fates, e, c.e)
		}
		mustBe(t, "P8.4", d, want)
	}
}

// TestCheckOrder: of two fates with faults the first tells, whichever its fault is; of a fate's faults the first that the chapter names.
func TestCheckOrder(t *testing.T) {
	faulty := []struct {
		f api.Fate
		e api.Errno
	}{
		{api.Fate{Name: "", Keep: -1, Over: []api.Write{{At: -1}}}, api.ErrName},
		{api.Fate{Name: "none", Keep: -1, Over: []api.Write{{At: -1}}}, api.ErrNone},
		{api.Fate{Name: "a", Keep: 9}, api.ErrFate},
		{api.Fate{Name: "b", Keep: 3, Over: []api.Write{{At: 2, Data: "z"}}}, api.ErrFate},
	}
	for _, one := range faulty {
		for _, two := range faulty {
			if e := power.Check(laid(), api.Fate{Name: "c", Keep: 1}, one.f, two.f); e != one.e {
				t.Errorf("P8.4: Check of %v ahead of %v is %d, not %d", one.f, two.f, e, one.e)
			}
		}
	}
	// Names that come twice but are no file's, or can't be one, tell that.
	for _, name := range []string{"", "none"} {
		f := api.Fate{Name: name}
		want := power.Check(laid(), f)
		if e := power.Check(laid(), f, f); e != want {
			t.Errorf("P8.4: Check of %q twice is %d, not %d", name, e, want)
		}
	}
	// A fate that comes twice tells at its second place, so one between the two tells ahead of it.
	if e := power.Check(laid(), api.Fate{Name: "a", Keep: 3}, api.Fate{Name: "none"}, api.Fate{Name: "a", Keep: 3}); e != api.ErrNone {
		t.Errorf("P8.4: %d", e)
	}
	if e := power.Check(laid(), api.Fate{Name: "a", Keep: 3}, api.Fate{Name: "a", Keep: 3}, api.Fate{Name: "none"}); e != api.ErrFate {
		t.Errorf("P8.4: %d", e)
	}
}

// TestCheckSmall goes through all small fates of a file of each small length.
func TestCheckSmall(t *testing.T) {
	for safe := range 4 {
		for more := range 4 {
			d := laid()
			d.Create("f")
			d.Append("f", "123"[:safe])
			d.Sync("f")
			d.Append("f", "456"[:more])
			s := sheetOf(t, d)
			for keep := -1; keep < 9; keep++ {
				for at := -1; at < 9; at++ {
					for n := range 9 {
						fates := []api.Fate{{Name: "f", Keep: keep, Over: []api.Write{{At: at, Data: "abcdefgh"[:n]}}}}
						if e, want := power.Check(d, fates...), s.checked(fates); e != want {
							t.Fatalf("P8.4: %d safe of %d: Check of %v is %d, not %d", safe, safe+more, fates, e, want)
						}
					}
				}
			}
			mustBe(t, "P8.4", d, s)
		}
	}
}

func TestCheckByDice(t *testing.T) {
	dice := rand.New(rand.NewPCG(8, 4))
	seen := map[api.Errno]int{}
	for range 20000 {
		d := someDisk(dice)
		s := sheetOf(t, d)
		fates := nearlyRight(dice, s)
		want := s.checked(fates)
		if e := power.Check(d, fates...); e != want {
			t.Fatalf("P8.4: Check of %v upon %+v is %d, not %d", fates, s, e, want)
		}
		seen[want]++
		mustBe(t, "P8.4", d, s)
		if want == api.OK {
			mustDoAsSaid(t, s, fates)
		}
	}
	for _, e := range []api.Errno{api.OK, api.ErrName, api.ErrNone, api.ErrFate} {
		if seen[e] < 500 {
			t.Errorf("%d came %d times", e, seen[e])
		}
	}
}

// nearlyRight answers fates of a disk's files, seldom with a fault.
func nearlyRight(dice *rand.Rand, s sheet) []api.Fate {
	var fates []api.Fate
	for _, f := range s.files {
		loose := len(f.bytes) - f.synced
		fate := api.Fate{Name: f.name, Keep: f.synced + dice.IntN(loose+1)}
		for range dice.IntN(3) {
			at := f.synced + dice.IntN(fate.Keep-f.synced+1)
			fate.Over = append(fate.Over, api.Write{At: at, Data: text(dice, fate.Keep-at)})
		}
		fates = append(fates, fate)
	}
	dice.Shuffle(len(fates), func(i, j int) { fates[i], fates[j] = fates[j], fates[i] })
	switch dice.IntN(8) {
	case 0:
		fates = append(fates, someFates(dice, 18)...)
	case 1:
		fates = append(someFates(dice, 18), fates...)
	case 2:
		fates = append(fates, api.Fate{Name: pick(dice, []string{"", strings.Repeat("x", 256), "none"})})
	case 3:
		if len(fates) > 0 {
			fates = append(fates, pick(dice, fates))
		}
	}
	return fates
}

// mustDoAsSaid: fates that are checked OK pass nothing over in a crash.
func mustDoAsSaid(t *testing.T, s sheet, fates []api.Fate) {
	t.Helper()
	for _, fate := range fates {
		f := s.find(fate.Name)
		want := []byte(f.bytes[:fate.Keep])
		for _, w := range fate.Over {
			copy(want[w.At:w.At+len(w.Data)], w.Data)
		}
		if left := power.Left(f.bytes, f.synced, fate); left != string(want) {
			t.Fatalf("P8.4: %v of %+v leaves %q", fate, *f, left)
		}
	}
}

func TestCheckOfAllFiles(t *testing.T) {
	d := crowd()
	fates := power.Most(d)
	if e := power.Check(d, fates...); e != api.OK || len(fates) != api.MostFiles {
		t.Errorf("P8.4: %d for %d fates", e, len(fates))
	}
	if e := power.Check(d, append(fates, api.Fate{Name: strconv.Itoa(api.MostFiles - 1), Keep: 2})...); e != api.ErrFate {
		t.Errorf("P8.4: %d", e)
	}
	if e := power.Check(d, append(fates, api.Fate{Name: strconv.Itoa(api.MostFiles), Keep: 2})...); e != api.ErrNone {
		t.Errorf("P8.4: %d", e)
	}
}

func TestCheckLeavesFates(t *testing.T) {
	mustLeaveFates(t, func(fates ...api.Fate) { power.Check(laid(), fates...) })
}
