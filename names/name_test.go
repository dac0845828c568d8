package names_test

import (
	"math"
	"math/rand/v2"
	"strings"
	"testing"

	"gantry/api"
	"gantry/names"
)

func TestKinds(t *testing.T) {
	if names.Log != 0 || names.Offsets != 1 || names.Times != 2 {
		t.Errorf("P9.1: the kinds are %d, %d, %d", names.Log, names.Offsets, names.Times)
	}
}

// baseEdges answers base offsets of every number of digits, and those about which the chapter's limits stand, in growing order from the first good one on.
func baseEdges() []int64 {
	edges := []int64{0}
	for p := int64(1); p < api.MostOffset/10; p *= 10 {
		edges = append(edges, p, p+1, 7*p, 10*p-1)
	}
	return append(edges, 1_000_000_000_000_000_000, 1<<61, 4611686018427387899, api.MostOffset-1, api.MostOffset)
}

func wrongBases() []int64 {
	return []int64{-1, -7, -10, -api.MostOffset, math.MinInt64, math.MinInt64 + 1, api.MostOffset + 1, api.MostOffset + 10, 9_000_000_000_000_000_000, math.MaxInt64 - 1, math.MaxInt64}
}

func kindEdges() []names.Kind {
	return []names.Kind{0, 1, 2, 3, 4, 9, -1, -2, 256, 257, 1 << 32, math.MinInt, math.MinInt + 1, math.MaxInt, math.MaxInt - 1}
}

func TestNameExamples(t *testing.T) {
	for _, x := range []struct {
		base int64
		kind names.Kind
		want string
		e    api.Errno
	}{
		{0, names.Log, "00000000000000000000.log", api.OK},
		{7, names.Offsets, "00000000000000000007.off", api.OK},
		{4611686018427387904, names.Times, "04611686018427387904.tim", api.OK},
		{4611686018427387905, names.Times, "", api.ErrRange},
		{-1, 9, "", api.ErrRange},
		{5, 9, "", api.ErrKind},
		{1234567890123456789, names.Log, "01234567890123456789.log", api.OK},
	} {
		if got, e := names.Name(x.base, x.kind); got != x.want || e != x.e {
			t.Errorf("P9.1: Name(%d, %d) is %q, %d; wanted %q, %d", x.base, x.kind, got, e, x.want, x.e)
		}
	}
}

// TestNameEdges: every base at an edge with every kind; a wrong base is told ahead of a wrong kind.
func TestNameEdges(t *testing.T) {
	for _, kind := range kindEdges() {
		for _, base := range append(baseEdges(), wrongBases()...) {
			sameName(t, base, kind)
		}
	}
}

func TestNameAndBack(t *testing.T) {
	back := func(base int64, kind names.Kind) {
		name, e := names.Name(base, kind)
		if e != api.OK || len(name) != 24 {
			t.Fatalf("P9.1: Name(%d, %d) is %q, %d", base, kind, name, e)
		}
		if b, k, ok := names.Parse(name); b != base || k != kind || !ok {
			t.Fatalf("P9.2: Parse(%q) is %d, %d, %t; wanted %d, %d, true", name, b, k, ok, base, kind)
		}
	}
	dice := rand.New(rand.NewPCG(9, 1))
	for kind := range names.Kind(3) {
		for _, base := range baseEdges() {
			back(base, kind)
		}
		for range 2000 {
			base := dice.Int64N(api.MostOffset + 1)
			back(base>>dice.IntN(62), kind)
			sameName(t, base, kind)
		}
	}
}

// TestNamesStandAsTheirBases: the order of the names' bytes is that of the bases, whatever the kinds.
func TestNamesStandAsTheirBases(t *testing.T) {
	edges := baseEdges()
	for i := 1; i < len(edges); i++ {
		if edges[i-1] == edges[i] {
			continue
		}
		for kind := range names.Kind(3) {
			lesser, _ := names.Name(edges[i-1], 2-kind)
			greater, _ := names.Name(edges[i], kind)
			if lesser >= greater {
				t.Errorf("P9.1: %q stands behind %q", lesser, greater)
			}
		}
	}
}

func TestParseExamples(t *testing.T) {
	if base, kind, ok := names.Parse("00000000000000000007.off"); base != 7 || kind != names.Offsets || !ok {
		t.Errorf("P9.2: %d, %d, %t", base, kind, ok)
	}
	if base, kind, ok := names.Parse("04611686018427387904.tim"); base != api.MostOffset || kind != names.Times || !ok {
		t.Errorf("P9.2: %d, %d, %t", base, kind, ok)
	}
	for _, name := range append(strays(), strings.Repeat("0", 1<<20), strings.Repeat("0", 1<<20)+".log") {
		if base, kind, ok := names.Parse(name); base != 0 || kind != 0 || ok {
			t.Errorf("P9.2: Parse(%q) is %d, %d, %t; wanted 0, 0, false", name, base, kind, ok)
		}
	}
}

// strays answers texts of many sorts that are no good names: the chapter's, and some that a loose reader would take.
func strays() []string {
	return []string{
		"", "7.log", "00000000000000000007.LOG", "0000000000000000007.log", "00000000000000000007.log ",
		"99999999999999999999.log", "04611686018427387905.log", "-0000000000000000007.log",

		// Signs and marks that numbers have elsewhere.
		"+0000000000000000007.log", "-0000000000000000000.log", "+0000000000000000000.tim", " 0000000000000000007.log",
		"0000000000_000000007.log", "0x000000000000000007.log", "0o000000000000000007.log", "0b000000000000000001.log",
		"0000000000000000007e.log", "0000000000000000007..log", "000000000000000000.7.log", "00000000000000000a07.log",

		// Numbers that are too great: 2^62+1 and on; those that come back below it when they wrap at 2^63 or 2^64.
		"09223372036854775807.off", "09223372036854775808.off", "09223372036854775815.off", "18446744073709551615.off",
		"18446744073709551616.off", "18446744073709551623.off", "27670116110564327424.off", "36893488147419103239.off",
		"04611686018427387910.off", "05000000000000000000.off", "10000000000000000000.off",

		// One digit too many, or some; no digits; nothing else.
		"000000000000000000007.log", "00000000000000000000000000000007.log", ".log", "log", "0.log", "00000000000000000007",
		"00000000000000000007.", "00000000000000000007.l", "00000000000000000007.lo", "00000000000000000007log", "00000000000000000007.logs",

		// Endings that are none, or two.
		"00000000000000000007.Log", "00000000000000000007.txt", "00000000000000000007.offset", "00000000000000000007.time", "00000000000000000007.tmp",
		"00000000000000000007.log.log", "00000000000000000007.log.off", "00000000000000000007,off", "00000000000000000007.of\x00", "00000000000000000007 tim",

		// Bytes ahead or behind.
		" 00000000000000000007.log", "./00000000000000000007.log", "00000000000000000007.log\n", "00000000000000000007.log\x00", "\n00000000000000000007.log",

		// Digits of other scripts, and bytes that are no text.
		"٠٠٠٠٠٠٠٠٠٠.log", "0000000000000000000７.log", "000000000000000007\xb7\xb7.log", "\xff\xfe", strings.Repeat("\x00", 24), strings.Repeat("0", 24),
		strings.Repeat("0", 1000) + ".log",
	}
}

// TestParseEveryNearText: a good name with any one byte other, one more at any place, or one or two less.
func TestParseEveryNearText(t *testing.T) {
	for _, name := range []string{"00000000000000000000.log", "04611686018427387904.tim", "01234567890123456789.off", "03999999999999999999.log"} {
		sameParse(t, name)
		for i := range len(name) + 1 {
			for b := range 256 {
				if i < len(name) {
					sameParse(t, name[:i]+string([]byte{byte(b)})+name[i+1:])
				}
				sameParse(t, name[:i]+string([]byte{byte(b)})+name[i:])
			}
			for j := i; j <= len(name); j++ {
				sameParse(t, name[:i]+name[j:])
			}
		}
	}
}

// TestParseNumbers: numbers of twenty digits, those near the greatest and all sizes.
func TestParseNumbers(t *testing.T) {
	dice := rand.New(rand.NewPCG(9, 2))
	for range 20000 {
		digits := []byte(strings.Repeat("0", 20))
		for i := dice.IntN(20); i < 20; i++ {
			digits[i] = byte('0' + dice.IntN(10))
		}
		if dice.IntN(2) == 0 {
			copy(digits, "04611686018427387904"[:dice.IntN(21)])
		}
		sameParse(t, string(digits)+chapterEnding(names.Kind(dice.IntN(3))))
	}
}

// TestParseTrueIsName: whatever text is taken is the name of what is answered.
func TestParseTrueIsName(t *testing.T) {
	dice := rand.New(rand.NewPCG(9, 3))
	taken := 0
	for range 20000 {
		text := someText(dice)
		base, kind, ok := names.Parse(text)
		if !ok {
			if base != 0 || kind != 0 {
				t.Errorf("P9.2: Parse(%q) is %d, %d beside false", text, base, kind)
			}
			continue
		}
		taken++
		if again, e := names.Name(base, kind); again != text || e != api.OK {
			t.Errorf("P9.2: %q is taken, but Name(%d, %d) is %q, %d", text, base, kind, again, e)
		}
	}
	if taken < 1000 {
		t.Errorf("only %d texts were good names", taken)
	}
}
