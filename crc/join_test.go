package crc_test

import (
	"math"
	"strings"
	"testing"
	"time"

	"gantry/crc"
)

// withZeros is a register that takes in n bytes 00.
func withZeros(register uint32, n int) uint32 {
	for range n {
		register = takeIn(register, 0)
	}
	return register
}

func TestJoinOfExamples(t *testing.T) {
	if got := crc.Join(crc.Sum("1234"), crc.Sum("56789"), 5); got != 0xE3069283 {
		t.Errorf("Join = %X", got)
	}
	if got := crc.Behind(0xE3069283, crc.Sum("1234"), 5); got != crc.Sum("56789") {
		t.Errorf("Behind = %X", got)
	}
}

func TestJoinCutAtEveryPlace(t *testing.T) {
	for _, s := range texts() {
		whole := crc.Sum(s)
		for i := range len(s) + 1 {
			first, second := crc.Sum(s[:i]), crc.Sum(s[i:])
			if got := crc.Join(first, second, len(s)-i); got != whole {
				t.Errorf("Join of %q at %d: %X, not %X", s, i, got, whole)
			}
			if got := crc.Behind(whole, first, len(s)-i); got != second {
				t.Errorf("Behind of %q at %d: %X, not %X", s, i, got, second)
			}
		}
	}
}

func TestJoinOfAnyNumbers(t *testing.T) {
	for _, n := range []int{0, 1, 2, 3, 4, 5, 7, 8, 31, 32, 33, 255, 256, 257, 1000, 4095, 65537} {
		for _, first := range numbers() {
			moved := withZeros(first, n)
			for _, second := range numbers() {
				if got := crc.Join(first, second, n); got != moved^second {
					t.Fatalf("Join(%X, %X, %d) = %X, not %X", first, second, n, got, moved^second)
				}
			}
		}
	}
}

func TestJoinOfEveryBit(t *testing.T) {
	for bit := range 32 {
		for n := range 70 {
			if got, want := crc.Join(1<<bit, 0, n), withZeros(1<<bit, n); got != want {
				t.Errorf("Join(1<<%d, 0, %d) = %X, not %X", bit, n, got, want)
			}
		}
	}
}

// TestJoinOfFewBytes: an n of 0 and any below it leave first as it is.
func TestJoinOfFewBytes(t *testing.T) {
	for _, n := range []int{0, -1, -2, -3, -8, -255, math.MinInt32, -1 << 40, math.MinInt + 1, math.MinInt} {
		for _, x := range numbers() {
			for _, y := range numbers() {
				if got := crc.Join(x, y, n); got != x^y {
					t.Errorf("Join(%X, %X, %d) = %X", x, y, n, got)
				}
				if got := crc.Behind(x, y, n); got != x^y {
					t.Errorf("Behind(%X, %X, %d) = %X", x, y, n, got)
				}
			}
		}
	}
}

func TestJoinOfNothingAhead(t *testing.T) {
	for _, n := range []int{math.MinInt, -1, 0, 1, 2, 12345, 1 << 31, 1 << 62, math.MaxInt - 1, math.MaxInt} {
		for _, x := range numbers() {
			if crc.Join(0, x, n) != x || crc.Behind(x, 0, n) != x {
				t.Errorf("%X, %d: %X, %X", x, n, crc.Join(0, x, n), crc.Behind(x, 0, n))
			}
		}
	}
}

// TestJoinOfManyBytes goes up to the greatest int by adding: a register that takes in a and then b bytes has taken in a + b.
func TestJoinOfManyBytes(t *testing.T) {
	for _, first := range numbers() {
		for _, n := range []int{1 << 20, 1<<31 - 1, 1 << 31, 1<<32 + 1, 1 << 40, 1<<62 - 1, 1 << 62, math.MaxInt - 1, math.MaxInt} {
			for _, part := range []int{1, 2, 3, 1000, 1 << 20, n / 2, n - 1} {
				if got, want := crc.Join(crc.Join(first, 0, n-part), 0, part), crc.Join(first, 0, n); got != want {
					t.Fatalf("%X: %d and %d bytes: %X, not %X", first, n-part, part, got, want)
				}
			}
		}
		if got, want := crc.Join(first, 0, 1<<20), withZeros(first, 1<<20); got != want {
			t.Fatalf("%X: %X, not %X", first, got, want)
		}
	}
}

// TestJoinComesRound: 2^31 - 1 moves lead every register back to itself, for CRC-32C's polynomial is x + 1 times a primitive one of degree 31.
// So many bytes are eight such rounds.
func TestJoinComesRound(t *testing.T) {
	const round = 1<<31 - 1
	for _, x := range numbers() {
		for _, rounds := range []int{1, 2, 3, 1 << 20, math.MaxInt / round} {
			if got := crc.Join(x, 0, rounds*round); got != x {
				t.Errorf("%X and %d rounds: %X", x, rounds, got)
			}
		}
		rest := math.MaxInt % round
		if got, want := crc.Join(x, 0, math.MaxInt), withZeros(x, rest); got != want {
			t.Errorf("%X: %X, not %X", x, got, want)
		}
	}
}

func TestJoinIsSwift(t *testing.T) {
	begun := time.Now()
	for i := range 1000 {
		crc.Join(uint32(i), 0, math.MaxInt-i)
	}
	if took := time.Since(begun); took > 20*time.Second {
		t.Error(took)
	}
}

func TestBehindIsWhatJoinNeeds(t *testing.T) {
	for _, n := range []int{math.MinInt, -1, 0, 1, 2, 3, 100, 1 << 31, 1<<40 + 7, math.MaxInt} {
		for _, whole := range numbers() {
			for _, first := range numbers() {
				if s := crc.Behind(whole, first, n); crc.Join(first, s, n) != whole {
					t.Errorf("Behind(%X, %X, %d) = %X", whole, first, n, s)
				}
			}
		}
	}
}

func TestFix(t *testing.T) {
	for _, sum := range numbers() {
		for _, want := range numbers() {
			z := crc.Fix(sum, want)
			if len(z) != 4 || crc.More(sum, z) != want || sumOf(sum, z) != want {
				t.Errorf("Fix(%X, %X) = %q", sum, want, z)
			}
		}
	}
	if z := crc.Fix(0, 0xE3069283); crc.More(0, z) != 0xE3069283 {
		t.Errorf("%q", z)
	}
}

// TestFixIsTheOnlyText: what leads to a sum is found again by it.
func TestFixIsTheOnlyText(t *testing.T) {
	for _, sum := range numbers() {
		for _, z := range []string{"\x00\x00\x00\x00", "\x01\x00\x00\x00", "\x00\x00\x00\x01", "abcd", "dcba", "\xff\xff\xff\xff", "\x80\x00\xff\x7f"} {
			if got := crc.Fix(sum, sumOf(sum, z)); got != z {
				t.Errorf("%X: %q, not %q", sum, got, z)
			}
		}
	}
}

// TestFixOfALongText: four bytes chosen at the end bring any text to any sum.
func TestFixOfALongText(t *testing.T) {
	s := strings.Repeat("0123456789", 1000)
	for _, want := range numbers() {
		if got := crc.Sum(s + crc.Fix(crc.Sum(s), want)); got != want {
			t.Errorf("%X, not %X", got, want)
		}
	}
}
