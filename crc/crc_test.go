package crc_test

import (
	"hash/crc32"
	"math/rand/v2"
	"strings"
	"testing"

	"gantry/crc"
)

// takeIn is what the chapter says of one byte, word by word: what is tested is held against it.
func takeIn(register uint32, b byte) uint32 {
	register ^= uint32(b)
	for range 8 {
		if register&1 == 1 {
			register = register>>1 ^ 0x82F63B78
		} else {
			register >>= 1
		}
	}
	return register
}

// sumOf is what the chapter says of a sum, going on behind the sum of other bytes.
func sumOf(sum uint32, s string) uint32 {
	register := sum ^ 0xFFFFFFFF
	for i := range len(s) {
		register = takeIn(register, s[i])
	}
	return register ^ 0xFFFFFFFF
}

// numbers are sums to begin with: every number is one.
func numbers() []uint32 {
	out := []uint32{0, 1, 2, 0x80, 0xFF, 0x100, 0x7FFFFFFF, 0x80000000, 0x82F63B78, 0xE3069283, 0xFFFFFFFE, 0xFFFFFFFF}
	rows := rand.New(rand.NewPCG(3, 1))
	for range 20 {
		out = append(out, rows.Uint32())
	}
	return out
}

// texts are of all lengths up to some, of each byte by itself, and of bytes that are all the same.
func texts() []string {
	out := []string{"123456789", "a", "abc", "ab\x00", "\x00ab", strings.Repeat("\xff", 1000)}
	for b := range 256 {
		out = append(out, string([]byte{byte(b)}))
	}
	rows := rand.New(rand.NewPCG(3, 2))
	for n := range 70 {
		s := make([]byte, n)
		for i := range s {
			s[i] = byte(rows.Uint32())
		}
		out = append(out, string(s), strings.Repeat("\x00", n))
	}
	return out
}

func TestSumOfKnownTexts(t *testing.T) {
	for s, want := range map[string]uint32{
		"":                          0,
		"\x00":                      0x527D5351,
		"a":                         0xC1D04330,
		"123456789":                 0xE3069283,
		strings.Repeat("\x00", 32):  0x8A9136AA,
		strings.Repeat("\xff", 32):  0x62A8AB43,
		"The quick brown fox jumps": crc32.Checksum([]byte("The quick brown fox jumps"), crc32.MakeTable(crc32.Castagnoli)),
	} {
		if got := crc.Sum(s); got != want {
			t.Errorf("Sum(%q) = %X, not %X", s, got, want)
		}
	}
}

func TestSumOfAllTexts(t *testing.T) {
	library := crc32.MakeTable(crc32.Castagnoli)
	for _, s := range texts() {
		want := sumOf(0, s)
		if got := crc.Sum(s); got != want || got != crc32.Checksum([]byte(s), library) {
			t.Errorf("Sum(%q) = %X, not %X", s, got, want)
		}
	}
}

func TestSumOfALongText(t *testing.T) {
	s := strings.Repeat("a long text of many bytes, ", 1<<16)
	want := crc32.Checksum([]byte(s), crc32.MakeTable(crc32.Castagnoli))
	if got := crc.Sum(s); got != want {
		t.Errorf("%X, not %X", got, want)
	}
	if got := crc.More(crc.Sum(s[:1<<20]), s[1<<20:]); got != want {
		t.Errorf("by two pieces %X, not %X", got, want)
	}
}

func TestMoreCutAtEveryPlace(t *testing.T) {
	for _, s := range texts() {
		want := sumOf(0, s)
		for i := range len(s) + 1 {
			if got := crc.More(crc.Sum(s[:i]), s[i:]); got != want {
				t.Errorf("%q at %d: %X, not %X", s, i, got, want)
			}
		}
	}
}

func TestMoreOfPieces(t *testing.T) {
	for _, s := range texts() {
		var sum uint32
		for i := range len(s) {
			sum = crc.More(sum, s[i:i+1])
			if sum != crc.Sum(s[:i+1]) {
				t.Fatalf("%q up to %d: %X", s, i, sum)
			}
		}
	}
}

func TestMoreOfAnyNumber(t *testing.T) {
	for _, sum := range numbers() {
		if got := crc.More(sum, ""); got != sum {
			t.Errorf("%X and nothing: %X", sum, got)
		}
		for _, s := range texts() {
			if got, want := crc.More(sum, s), sumOf(sum, s); got != want {
				t.Fatalf("More(%X, %q) = %X, not %X", sum, s, got, want)
			}
		}
	}
}

func TestTable(t *testing.T) {
	table := crc.Table()
	for i, got := range table {
		if want := takeIn(uint32(i), 0); got != want {
			t.Errorf("Table()[%d] = %X, not %X", i, got, want)
		}
	}
	if table != [256]uint32(*crc32.MakeTable(crc32.Castagnoli)) {
		t.Error("the library has another table")
	}
	if table[0] != 0 || table[1] != 0xF26B8303 || table[255] != 0xAD7D5351 {
		t.Errorf("%X, %X, %X", table[0], table[1], table[255])
	}
}

// TestTableIsNew: who changes an answered table changes no other answer.
func TestTableIsNew(t *testing.T) {
	table := crc.Table()
	table[1], table['a'] = 0, 0
	if crc.Table()[1] != 0xF26B8303 || crc.Sum("123456789") != 0xE3069283 {
		t.Error("the answered table is kept")
	}
}
