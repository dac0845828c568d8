package power_test

import (
	"math"
	"math/rand/v2"
	"strings"
	"testing"

	"gantry/api"
	"gantry/power"
)

func TestKinds(t *testing.T) {
	for i, k := range []power.Kind{power.Whole, power.Cut, power.Changed, power.Both} {
		if int(k) != i {
			t.Errorf("kind %d has the number %d", i, k)
		}
	}
}

func mustLeave(t *testing.T, data string, synced int, f api.Fate) {
	t.Helper()
	if got, want := power.Left(data, synced, f), leftOf(data, synced, f); got != want {
		t.Fatalf("P8.1: Left(%q, %d, %v) is %q, not %q", data, synced, f, got, want)
	}
	if got, want := power.Of(data, synced, f), kindOf(data, synced, f); got != want {
		t.Fatalf("P8.1: Of(%q, %d, %v) is %d, not %d", data, synced, f, got, want)
	}
}

func TestLeftExamples(t *testing.T) {
	for _, c := range []struct {
		keep int
		over []api.Write
		left string
		kind power.Kind
	}{
		{4, nil, "abcd", power.Cut},
		{0, nil, "ab", power.Cut},
		{99, nil, "abcdef", power.Whole},
		{4, []api.Write{{At: 1, Data: "XYZW"}}, "abYZ", power.Both},
		{5, []api.Write{{At: -1, Data: "pqrs"}}, "absde", power.Both},
		{6, []api.Write{{At: 2, Data: "c"}}, "abcdef", power.Whole},
		{6, []api.Write{{At: 2, Data: "C"}}, "abCdef", power.Changed},
		{3, []api.Write{{At: 2, Data: "C"}}, "abC", power.Both},
		{6, []api.Write{{At: 2, Data: "C"}, {At: 2, Data: "c"}}, "abcdef", power.Whole},
		{5, []api.Write{{At: 2, Data: "C"}, {At: 2, Data: "c"}}, "abcde", power.Cut},
		{6, []api.Write{{At: 2, Data: "123"}, {At: 3, Data: "XYZW"}, {At: 4, Data: "-"}}, "ab1X-Z", power.Changed},
		{3, []api.Write{{At: 3, Data: "X"}, {At: 1, Data: "Y"}}, "abc", power.Cut},
	} {
		f := api.Fate{Name: "passed over", Keep: c.keep, Over: c.over}
		if got := power.Left("abcdef", 2, f); got != c.left {
			t.Errorf("P8.1: Left with %v is %q, not %q", f, got, c.left)
		}
		if got := power.Of("abcdef", 2, f); got != c.kind {
			t.Errorf("P8.1: Of %v is %d, not %d", f, got, c.kind)
		}
		mustLeave(t, "abcdef", 2, f)
	}
}

// TestLeftSmall goes through all small files, all that may be safe of them and all small fates with a write or none.
func TestLeftSmall(t *testing.T) {
	for length := range 6 {
		data := "abcde"[:length]
		for synced := -1; synced < length+2; synced++ {
			for keep := -1; keep < length+2; keep++ {
				mustLeave(t, data, synced, api.Fate{Keep: keep})
				for at := -4; at < length+3; at++ {
					for n := range length + 6 {
						mustLeave(t, data, synced, api.Fate{Keep: keep, Over: []api.Write{{At: at, Data: "0123456789+"[:n]}}})
					}
				}
			}
		}
	}
}

// TestLeftAtTheEdges takes numbers whose sums with others would wrap.
func TestLeftAtTheEdges(t *testing.T) {
	numbers := append(edges(), -3, 0, 2, 5, 9)
	for _, synced := range numbers {
		for _, keep := range numbers {
			for _, at := range numbers {
				for _, data := range []string{"", "x", "pqrstuvwxyz"} {
					mustLeave(t, "abcde", synced, api.Fate{Keep: keep, Over: []api.Write{{At: at, Data: data}}})
					mustLeave(t, "", synced, api.Fate{Keep: keep, Over: []api.Write{{At: at, Data: data}}})
				}
			}
		}
	}
	if got := power.Left("abcdef", math.MinInt, api.Fate{Keep: math.MinInt}); got != "" {
		t.Errorf("P8.1: %q", got)
	}
	if got := power.Left("abcdef", math.MaxInt, api.Fate{Keep: math.MinInt, Over: []api.Write{{Data: "123456"}}}); got != "abcdef" {
		t.Errorf("P8.1: %q", got)
	}
}

// TestLeftOfLongWrites: a write may begin far ahead of the file and reach far beyond it.
func TestLeftOfLongWrites(t *testing.T) {
	long := strings.Repeat("0123456789", 1000)
	for _, at := range []int{-9999, -9998, -9997, -9000, -5, -1, 0, 3} {
		mustLeave(t, "abcdefghij", 3, api.Fate{Keep: 8, Over: []api.Write{{At: at, Data: long}}})
	}
}

func TestLeftByDice(t *testing.T) {
	dice := rand.New(rand.NewPCG(8, 1))
	for range 60000 {
		data := text(dice, 12)
		mustLeave(t, data, number(dice, len(data)), someFate(dice, pick(dice, someNames()), len(data)))
	}
}

// TestNamesOfLeft: the name of a fate means nothing to Left and Of.
func TestNamesOfLeft(t *testing.T) {
	for _, name := range someNames() {
		f := api.Fate{Name: name, Keep: 3, Over: []api.Write{{At: 2, Data: "C"}}}
		if left, kind := power.Left("abcdef", 2, f), power.Of("abcdef", 2, f); left != "abC" || kind != power.Both {
			t.Errorf("P8.1: with the name %q: %q, %d", name, left, kind)
		}
	}
}

func TestLeftLeavesFates(t *testing.T) {
	mustLeaveFates(t, func(fates ...api.Fate) {
		for _, f := range fates {
			power.Left("abcdef", 1, f)
			power.Of("abcdef", 1, f)
		}
	})
}
