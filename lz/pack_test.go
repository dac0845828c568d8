package lz_test

import (
	"math"
	"math/rand/v2"
	"slices"
	"strings"
	"testing"

	"gantry/api"
	"gantry/lz"
)

func mustBest(t *testing.T, s string, at, length, distance int) {
	t.Helper()
	if n, d := lz.Best(s, at); n != length || d != distance {
		t.Errorf("P4.1: Best(%.40q of %d, %d) = %d, %d, not %d, %d", s, len(s), at, n, d, length, distance)
	}
}

// unlike answers n bytes of which no four come again, and none of them is below 16.
func unlike(t *testing.T, n int) string {
	t.Helper()
	s := make([]byte, n)
	seen := map[string]int{}
	rows := rand.New(rand.NewPCG(4, 3))
	for i := range s {
		s[i] = byte(16 + rows.IntN(240))
		if i >= 3 {
			seen[string(s[i-3:i+1])]++
		}
	}
	if len(seen) != max(n-3, 0) {
		t.Fatal("four bytes come again")
	}
	return string(s)
}

func TestBestOfEveryPlace(t *testing.T) {
	for i, s := range shortTexts() {
		if i%7 != 0 && len(s) > 10 {
			continue
		}
		for at := range len(s) {
			length, distance := bestOf(s, at)
			mustBest(t, s, at, length, distance)
		}
	}
}

func TestBestOfLongTexts(t *testing.T) {
	for _, s := range longTexts() {
		for at := 0; at < len(s); at += 61 {
			length, distance := bestOf(s, at)
			mustBest(t, s, at, length, distance)
		}
	}
}

func TestBestOutside(t *testing.T) {
	s := strings.Repeat("a", 20)
	for _, at := range []int{math.MinInt, math.MinInt + 1, -1 << 32, -8192, -20, -1, 20, 21, 24, 8192, 1 << 32, math.MaxInt - 1, math.MaxInt} {
		mustBest(t, s, at, 0, 0)
		mustBest(t, "", at, 0, 0)
	}
	mustBest(t, "", 0, 0, 0)
	mustBest(t, s, 0, 0, 0)
	mustBest(t, s, 1, 19, 1)
	mustBest(t, s, 16, 4, 1)
	for at := 17; at < 20; at++ {
		mustBest(t, s, at, 0, 0)
	}
}

func TestBestOfExamples(t *testing.T) {
	mustBest(t, "abcabcabcd", 3, 6, 3)
	mustBest(t, "abcabcabcd", 0, 0, 0)
	mustBest(t, "abcabcabcd", 7, 0, 0)
}

func TestBestLengths(t *testing.T) {
	for n, want := range map[int]int{3: 0, 4: 4, 5: 5, 130: 130, 131: 131, 132: 131, 500: 131} {
		piece := unlike(t, n)
		mustBest(t, piece+"\x01"+piece+"\x02", n+1, want, []int{0, n + 1}[min(want, 1)])
		mustBest(t, piece+"\x01"+piece, n+1, want, []int{0, n + 1}[min(want, 1)])
	}
	for n, want := range map[int]int{4: 0, 5: 4, 131: 130, 132: 131, 133: 131, 200: 131} {
		mustBest(t, strings.Repeat("x", n), 1, want, min(want, 1))
	}
}

func TestBestDistances(t *testing.T) {
	for far, want := range map[int]int{6: 6, 8191: 6, 8192: 6, 8193: 0, 8194: 0, 2 * 8192: 0} {
		filler := unlike(t, far-6)
		s := "\x01\x02\x03\x04\x05\x06" + filler + "\x01\x02\x03\x04\x05\x06"
		mustBest(t, s, far, want, []int{0, far}[min(want, 1)])
		mustBest(t, "\x07\x08\x09"+s, far+3, want, []int{0, far}[min(want, 1)])
	}
}

// TestBestOfSeveral: the longest comes first, then the nearest; what lies beyond the window or is longer than a match may be counts for nothing.
func TestBestOfSeveral(t *testing.T) {
	mustBest(t, "abcd1abcd2abcd1", 10, 5, 10)
	mustBest(t, "abcd1abcd2abcd3", 10, 4, 5)
	mustBest(t, "abcd1abcd2abcd", 10, 4, 5)
	mustBest(t, "abcd1abcd1abcd1", 10, 5, 5)
	mustBest(t, "abcde1abcd2abcdf3abcde", 17, 5, 17)
	longer := unlike(t, 140)
	s := longer + "\x01" + longer[:131] + "\x02" + longer
	mustBest(t, s, 273, 131, 132)
	s = longer + "\x01" + longer[:130] + "\x02" + longer
	mustBest(t, s, 272, 131, 272)
	for n, want := range map[int]int{100: 6, 8180: 6, 8181: 6, 8182: 4, 8300: 4} {
		s = "\x01\x02\x03\x04\x05\x06" + unlike(t, n) + "\x01\x02\x03\x04\x07" + "\x01\x02\x03\x04\x05\x06"
		distance := map[int]int{6: n + 11, 4: 5}[want]
		mustBest(t, s, n+11, want, distance)
		mustBest(t, "\x08\x09"+s, n+13, want, distance)
	}
}

func TestPackOfExamples(t *testing.T) {
	row := make([]byte, 130)
	for i := range row {
		row[i] = byte(i)
	}
	for s, want := range map[string]string{
		"":                       "",
		"a":                      "\x00a",
		"abc":                    "\x02abc",
		"aaaa":                   "\x03aaaa",
		"aaaaa":                  "\x00a\x80\x00\x01",
		"abcabcabcd":             "\x02abc\x82\x00\x03\x00d",
		strings.Repeat("a", 140): "\x00a\xff\x00\x01\x84\x00\x01",
		"abcdXabcdYabcd":         "\x04abcdX\x80\x00\x05\x00Y\x80\x00\x05",
		string(row):              "\x7f" + string(row[:128]) + "\x01\x80\x81",
	} {
		if got := lz.Pack(s); got != want {
			t.Errorf("P4.2: Pack(%q) = %x, not %x", s, got, want)
		}
	}
}

func TestPackIsPacking(t *testing.T) {
	for _, s := range slices.Concat(shortTexts(), longTexts()) {
		want := packing(s)
		packed := lz.Pack(s)
		if packed != formOf(want) {
			t.Fatalf("P4.2: Pack(%.60q of %d) is not the form of 'Packing'", s, len(s))
		}
		tokens, n, e := lz.Tokens(packed)
		if !slices.Equal(tokens, want) || n != len(packed) || e != api.OK {
			t.Fatalf("P4.7: the tokens of Pack(%.60q of %d) are not those of 'Packing'", s, len(s))
		}
	}
}

// TestPackOfLiterals: only what follows on one another with no match between is told in one token.
func TestPackOfLiterals(t *testing.T) {
	for n, sizes := range map[int][]int{1: {1}, 127: {127}, 128: {128}, 129: {128, 1}, 255: {128, 127}, 256: {128, 128}, 257: {128, 128, 1}, 400: {128, 128, 128, 16}} {
		s := unlike(t, n)
		var want []lz.Token
		at := 0
		for _, size := range sizes {
			want = append(want, lz.Token{Literals: s[at : at+size]})
			at += size
		}
		if got := lz.Pack(s); got != formOf(want) {
			t.Errorf("P4.2: %d literals: %x", n, got)
		}
		match := lz.Token{Length: 4, Distance: 4}
		ahead := lz.Token{Literals: "\x01\x02\x03\x04"}
		want = slices.Concat([]lz.Token{ahead, match}, want)
		if got := lz.Pack("\x01\x02\x03\x04\x01\x02\x03\x04" + s); got != formOf(want) {
			t.Errorf("P4.2: %d literals behind a match: %x", n, got)
		}
	}
}

// TestPackTakesWhatIsThere: a match is taken where there is one, though one place later a longer one begins, and what a match stood for is matched again.
func TestPackTakesWhatIsThere(t *testing.T) {
	s := "\x01\x02\x03\x04" + "\x05" + "\x02\x03\x04\x06\x07\x08\x09" + "\x01\x02\x03\x04\x06\x07\x08\x09"
	want := []lz.Token{{Literals: s[:12]}, {Length: 4, Distance: 12}, {Length: 4, Distance: 8}}
	if got := lz.Pack(s); got != formOf(want) {
		t.Errorf("P4.2: %x", got)
	}
	s = "abcdefgh" + "abcdefgh" + "XY" + "cdefgh"
	want = []lz.Token{{Literals: "abcdefgh"}, {Length: 8, Distance: 8}, {Literals: "XY"}, {Length: 6, Distance: 8}}
	if got := lz.Pack(s); got != formOf(want) {
		t.Errorf("P4.2: %x", got)
	}
}

func TestPackedIsUnpacked(t *testing.T) {
	for _, s := range slices.Concat(shortTexts(), longTexts()) {
		packed := lz.Pack(s)
		for _, most := range []int{len(s), len(s) + 1, math.MaxInt} {
			if got, e := lz.Unpack(packed, len(s), most); got != s || e != api.OK {
				t.Fatalf("P4.7: of %.60q of %d came %.60q of %d, %d", s, len(s), got, len(got), e)
			}
		}
		tokens, _, _ := lz.Tokens(packed)
		if got, e := lz.Form(tokens); got != packed || e != api.OK {
			t.Fatalf("P4.7: of %x came %x, %d", packed, got, e)
		}
	}
}

// TestPackOfMuch: as many bytes as a batch's records may have.
func TestPackOfMuch(t *testing.T) {
	for _, s := range []string{strings.Repeat("a", api.MostPlain), randomText(rand.New(rand.NewPCG(4, 8)), api.MostPlain, 256)} {
		packed := lz.Pack(s)
		if len(packed) > lz.Bound(len(s)) {
			t.Errorf("P4.6: %d bytes of %d", len(packed), len(s))
		}
		if got, e := lz.Unpack(packed, len(s), api.MostPlain); got != s || e != api.OK {
			t.Errorf("P4.7: %d bytes of %d, %d", len(got), len(s), e)
		}
	}
}

func TestBound(t *testing.T) {
	most := 1<<30 + 1<<23
	for n, want := range map[int]int{
		0: 0, 1: 2, 2: 3, 127: 128, 128: 129, 129: 131, 130: 132, 255: 257, 256: 258, 257: 260, 383: 386, 384: 387, 385: 389, 12800: 12900, 12801: 12902,
		-1: 0, -127: 0, -128: 0, -129: 0, -1 << 40: 0, math.MinInt + 1: 0, math.MinInt: 0,
		api.MostFile - 129: most - 130, api.MostFile - 128: most - 129, api.MostFile - 127: most - 127, api.MostFile - 1: most - 1, api.MostFile: most,
		api.MostFile + 1: most, api.MostFile + 128: most, 1 << 40: most, math.MaxInt - 1: most, math.MaxInt: most,
	} {
		if got := lz.Bound(n); got != want {
			t.Errorf("P4.6: Bound(%d) = %d, not %d", n, got, want)
		}
	}
}

func TestPackKeepsBound(t *testing.T) {
	for _, s := range slices.Concat(shortTexts(), longTexts()) {
		if got := len(lz.Pack(s)); got > lz.Bound(len(s)) {
			t.Fatalf("P4.6: %d bytes of %d", got, len(s))
		}
	}
	for n := range 400 {
		if got := len(lz.Pack(unlike(t, n))); got != lz.Bound(n) {
			t.Errorf("P4.6: %d bytes of %d that have no match", got, n)
		}
	}
}
