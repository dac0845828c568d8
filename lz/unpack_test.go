package lz_test

import (
	"math"
	"math/rand/v2"
	"runtime"
	"slices"
	"strings"
	"testing"

	"gantry/api"
	"gantry/lz"
)

func mustUnpack(t *testing.T, packed string, length, most int, want string, wantErr api.Errno) {
	t.Helper()
	if s, e := lz.Unpack(packed, length, most); s != want || e != wantErr {
		t.Errorf("P4.3: Unpack(%.60x of %d, %d, %d) = %.60q of %d, %d, not %.60q of %d, %d", packed, len(packed), length, most, s, len(s), e, want, len(want), wantErr)
	}
}

func TestUnpackOfExamples(t *testing.T) {
	mustUnpack(t, "\x80\x00\x01", 4, 9, "", api.ErrPacked)
	mustUnpack(t, "\x00a\x80\x00\x01", 5, 9, "aaaaa", api.OK)
	mustUnpack(t, "\x00a\x80\x00\x01", 4, 9, "", api.ErrLeft)
	mustUnpack(t, "\x00a\x80\x00\x01", 6, 9, "", api.ErrShort)
	mustUnpack(t, "\x00a\x80\x00\x01", 5, 4, "", api.ErrBig)
	mustUnpack(t, "\x00a\x80\x00", 5, 9, "", api.ErrShort)
	mustUnpack(t, "", 0, 0, "", api.OK)
	mustUnpack(t, "", 0, -1, "", api.ErrBig)
	mustUnpack(t, "\x00a", 0, 0, "", api.ErrLeft)
}

// TestUnpackErrorsInOrder: the length first; then token by token, and within a token as the chapter names them.
func TestUnpackErrorsInOrder(t *testing.T) {
	wrong := "\x80\x00"
	for _, length := range []int{-1, -2, math.MinInt} {
		mustUnpack(t, wrong, length, 100, "", api.ErrBig)
		mustUnpack(t, wrong, length, math.MinInt, "", api.ErrBig)
		mustUnpack(t, "", length, math.MaxInt, "", api.ErrBig)
	}
	mustUnpack(t, wrong, 101, 100, "", api.ErrBig)
	mustUnpack(t, wrong, math.MaxInt, math.MaxInt-1, "", api.ErrBig)
	mustUnpack(t, wrong, 100, 100, "", api.ErrShort)
	// The bytes end, though the token would be too long or without a right distance too.
	mustUnpack(t, "\x01a", 0, 0, "", api.ErrShort)
	mustUnpack(t, "\x00a\x80\x00", 1, 1, "", api.ErrShort)
	mustUnpack(t, "\x80\xff", 0, 0, "", api.ErrShort)
	// A wrong distance, though the token would be too long too.
	mustUnpack(t, "\x00a\x80\x00\x00", 1, 1, "", api.ErrPacked)
	mustUnpack(t, "\x00a\x80\x00\x02", 1, 1, "", api.ErrPacked)
	mustUnpack(t, "\x80\x00\x01", 0, 0, "", api.ErrPacked)
	// An earlier token's error, though a later one's is named first.
	mustUnpack(t, "\x01ab\x80\x00", 1, 9, "", api.ErrLeft)
	mustUnpack(t, "\x01ab\x80\x00\x00", 1, 9, "", api.ErrLeft)
	mustUnpack(t, "\x00a\x80\x00\x00\x05", 9, 9, "", api.ErrPacked)
	mustUnpack(t, "\x00a\x80\x00\x01\x00b\x01", 5, 9, "", api.ErrLeft)
	// Behind the last token only what is missing counts.
	mustUnpack(t, "\x00a\x80\x00\x01", 9, 9, "", api.ErrShort)
}

func TestUnpackOfDistances(t *testing.T) {
	ahead := ""
	text := unlike(t, 8300)
	for at := 0; at < len(text); at += 100 {
		ahead += "\x63" + text[at:at+100]
	}
	for distance, right := range map[int]bool{0: false, 1: true, 2: true, 255: true, 256: true, 257: true, 8191: true, 8192: true, 8193: false, 8300: false, 16384: false, 65535: false} {
		packed := ahead + "\x82" + string([]byte{byte(distance >> 8), byte(distance)})
		if !right {
			mustUnpack(t, packed, 8306, 8306, "", api.ErrPacked)
			continue
		}
		want := text + strings.Repeat(text[8300-distance:], 6)[:6]
		mustUnpack(t, packed, 8306, 8306, want, api.OK)
	}
	for n := 1; n < 60; n++ {
		ahead := string([]byte{byte(n - 1)}) + text[:n]
		mustUnpack(t, ahead+"\x80\x00"+string([]byte{byte(n)}), n+4, n+4, text[:n]+(text[:n] + text[:n] + text[:n] + text[:n])[:4], api.OK)
		mustUnpack(t, ahead+"\x80\x00"+string([]byte{byte(n + 1)}), n+4, n+4, "", api.ErrPacked)
	}
}

func TestUnpackOfTokenSizes(t *testing.T) {
	text := unlike(t, 128)
	for n := 1; n <= 128; n++ {
		packed := string([]byte{byte(n - 1)}) + text[:n]
		mustUnpack(t, packed, n, n, text[:n], api.OK)
		mustUnpack(t, packed, n-1, n, "", api.ErrLeft)
		mustUnpack(t, packed, n+1, n+1, "", api.ErrShort)
		mustUnpack(t, packed[:n], n, n, "", api.ErrShort)
	}
	for n := 4; n <= 131; n++ {
		packed := "\x01ab" + string([]byte{byte(n + 124)}) + "\x00\x02"
		mustUnpack(t, packed, n+2, n+2, strings.Repeat("ab", 70)[:n+2], api.OK)
		mustUnpack(t, packed, n+1, n+2, "", api.ErrLeft)
		mustUnpack(t, packed, n+3, n+3, "", api.ErrShort)
	}
}

// TestUnpackOfAnyTokens: P4.4, of rows of tokens that Pack would not answer; with each beginning, and lengths that are not theirs.
func TestUnpackOfAnyTokens(t *testing.T) {
	mustUnpack(t, "\x01ab\x80\x00\x02\x80\x00\x01", 10, 10, "abababbbbb", api.OK)
	mustUnpack(t, "\x03aaaa\x03aaaa\x00a", 9, 9, "aaaaaaaaa", api.OK)
	mustUnpack(t, "\x00a\x80\x00\x01\x80\x00\x05\x80\x00\x01", 13, 13, strings.Repeat("a", 13), api.OK)
	rows := rand.New(rand.NewPCG(4, 4))
	for range 400 {
		tokens, text := randomTokens(rows, 12)
		packed := formOf(tokens)
		mustUnpack(t, packed, len(text), len(text), text, api.OK)
		for _, length := range []int{math.MinInt, -1, 0, 1, len(text) - 5, len(text) - 1, len(text) + 1, len(text) + 4, 1 << 40, math.MaxInt} {
			for _, most := range []int{math.MinInt, -1, 0, length, len(text), math.MaxInt} {
				want, e := unpacking(packed, length, most)
				mustUnpack(t, packed, length, most, want, e)
			}
		}
		for n := range len(packed) {
			want, e := unpacking(packed[:n], len(text), len(text))
			mustUnpack(t, packed[:n], len(text), len(text), want, e)
			if e == api.OK {
				t.Fatalf("P4.3: a beginning unpacks to as many bytes")
			}
		}
	}
}

// TestUnpackOfAnyBytes: whatever it is handed, it answers as the chapter says.
func TestUnpackOfAnyBytes(t *testing.T) {
	for i := range 1 << 16 {
		s := string([]byte{byte(i >> 8), byte(i)})
		for _, packed := range []string{s, s[1:], "\x00" + s, "\x02abc\x80" + s} {
			for _, length := range []int{0, 1, 7} {
				want, e := unpacking(packed, length, 7)
				mustUnpack(t, packed, length, 7, want, e)
			}
		}
	}
	rows := rand.New(rand.NewPCG(4, 5))
	for range 20000 {
		s := []byte(randomText(rows, rows.IntN(40), 4))
		for i := range s {
			if rows.IntN(3) == 0 {
				s[i] |= 0x80
			}
		}
		for _, length := range []int{rows.IntN(20), rows.IntN(200)} {
			want, e := unpacking(string(s), length, 150)
			mustUnpack(t, string(s), length, 150, want, e)
		}
	}
}

// taken answers how many bytes of memory a call lays hold of.
func taken(call func()) uint64 {
	var ahead, behind runtime.MemStats
	runtime.ReadMemStats(&ahead)
	call()
	runtime.ReadMemStats(&behind)
	return behind.TotalAlloc - ahead.TotalAlloc
}

// TestUnpackTakesLittleMemory: P4.4, however great the length is.
func TestUnpackTakesLittleMemory(t *testing.T) {
	const little = 1 << 16
	for _, length := range []int{1 << 30, 1 << 40, 1 << 60, math.MaxInt} {
		for _, packed := range []string{"", "\x00a", "\x00a\x80\x00\x01", "\x00a\x80\x00\x00", "\x7f", strings.Repeat("\x00a\xff\x00\x01", 20)} {
			var s string
			var e api.Errno
			got := taken(func() { s, e = lz.Unpack(packed, length, math.MaxInt) })
			if got > little || s != "" || e == api.OK {
				t.Errorf("P4.4: length %d of %x: %d bytes, %q, %d", length, packed, got, s, e)
			}
		}
	}
	packed := "\x00a" + strings.Repeat("\xff\x00\x01", 10000)
	length := 1 + 131*10000
	for _, wrong := range []int{length - 1, length, length + 1, 1 << 40} {
		if got := taken(func() { lz.Unpack(packed, wrong, math.MaxInt) }); got > uint64(4*length) {
			t.Errorf("P4.4: %d bytes for %d that the tokens tell", got, length)
		}
	}
}

func TestTokensOfEdges(t *testing.T) {
	text := strings.Repeat("xyz", 50)
	for _, c := range []struct {
		packed string
		want   []lz.Token
		at     int
		e      api.Errno
	}{
		{"", nil, 0, api.OK},
		{"\x00a", []lz.Token{{Literals: "a"}}, 2, api.OK},
		{"\x7f" + text[:128], []lz.Token{{Literals: text[:128]}}, 129, api.OK},
		{"\x7f" + text[:127], nil, 0, api.ErrShort},
		{"\x7f" + text[:129], nil, 129, api.ErrShort},
		{"\x80\x00\x01", []lz.Token{{Length: 4, Distance: 1}}, 3, api.OK},
		{"\xff\x00\x01", []lz.Token{{Length: 131, Distance: 1}}, 3, api.OK},
		{"\x81\x01\x02", []lz.Token{{Length: 5, Distance: 258}}, 3, api.OK},
		{"\x80\x20\x00", []lz.Token{{Length: 4, Distance: 8192}}, 3, api.OK},
		{"\x80\x20\x01", nil, 0, api.ErrPacked},
		{"\x80\x00\x00", nil, 0, api.ErrPacked},
		{"\x80\xff\xff", nil, 0, api.ErrPacked},
		{"\x00", nil, 0, api.ErrShort},
		{"\x80", nil, 0, api.ErrShort},
		{"\x80\x00", nil, 0, api.ErrShort},
		{"\x80\xff", nil, 0, api.ErrShort},
		{"\x00a\x80\x00\x00", nil, 2, api.ErrPacked},
		{"\x00a\x80\x00\x01\x02bc", nil, 5, api.ErrShort},
		{"\x00a\x80\x00\x00\x02bc", nil, 2, api.ErrPacked},
		{"\x00a\x00b", []lz.Token{{Literals: "a"}, {Literals: "b"}}, 4, api.OK},
	} {
		if l, at, e := lz.Tokens(c.packed); !slices.Equal(l, c.want) || at != c.at || e != c.e {
			t.Errorf("P4.5: Tokens(%x) = %v, %d, %d, not %v, %d, %d", c.packed, l, at, e, c.want, c.at, c.e)
		}
	}
}

func TestTokensOfEveryBeginning(t *testing.T) {
	rows := rand.New(rand.NewPCG(4, 6))
	for range 300 {
		tokens, _ := randomTokens(rows, 12)
		packed := formOf(tokens)
		// ends has the number of tokens that end at a place.
		ends := map[int]int{0: 0}
		for i := range tokens {
			ends[len(formOf(tokens[:i+1]))] = i + 1
		}
		last := 0
		for n := range len(packed) + 1 {
			count, whole := ends[n]
			l, at, e := lz.Tokens(packed[:n])
			if whole {
				last = n
				if !slices.Equal(l, tokens[:count]) || at != n || e != api.OK {
					t.Fatalf("P4.5: Tokens(%x) = %v, %d, %d", packed[:n], l, at, e)
				}
			} else if len(l) != 0 || at != last || e != api.ErrShort {
				t.Fatalf("P4.5: Tokens(%x) = %v, %d, %d, not at %d", packed[:n], l, at, e, last)
			}
		}
	}
}

// TestTokensAndForm: P4.5 and P4.7, of tokens that need no text ahead of them.
func TestTokensAndForm(t *testing.T) {
	rows := rand.New(rand.NewPCG(4, 7))
	for range 500 {
		var tokens []lz.Token
		for range rows.IntN(20) {
			if rows.IntN(2) == 0 {
				tokens = append(tokens, lz.Token{Literals: randomText(rows, pick(rows, 1, 128), 256)})
			} else {
				tokens = append(tokens, lz.Token{Length: pick(rows, 4, 131), Distance: pick(rows, 1, 8192)})
			}
		}
		packed, e := lz.Form(tokens)
		if packed != formOf(tokens) || e != api.OK {
			t.Fatalf("P4.5: Form(%v) = %x, %d", tokens, packed, e)
		}
		l, n, e := lz.Tokens(packed)
		if !slices.Equal(l, tokens) || n != len(packed) || e != api.OK {
			t.Fatalf("P4.7: Tokens(%x) = %v, %d, %d", packed, l, n, e)
		}
	}
	for i := range 1 << 16 {
		packed := "\x80" + string([]byte{byte(i >> 8), byte(i)})
		l, n, e := lz.Tokens(packed)
		if i == 0 || i > 8192 {
			if len(l) != 0 || n != 0 || e != api.ErrPacked {
				t.Fatalf("P4.5: Tokens(%x) = %v, %d, %d", packed, l, n, e)
			}
			continue
		}
		if back, _ := lz.Form(l); back != packed || n != 3 || e != api.OK {
			t.Fatalf("P4.7: Tokens(%x) = %v, %d, %d", packed, l, n, e)
		}
	}
}

func TestFormOfWrongTokens(t *testing.T) {
	long := strings.Repeat("x", 129)
	for _, wrong := range []lz.Token{
		{}, {Literals: long}, {Literals: long + long},
		{Length: 1}, {Length: 4}, {Length: 131}, {Distance: 1}, {Distance: 8192},
		{Length: 3, Distance: 1}, {Length: 0, Distance: 1}, {Length: 132, Distance: 1}, {Length: -4, Distance: 1}, {Length: 260, Distance: 1},
		{Length: math.MaxInt, Distance: 1}, {Length: math.MinInt, Distance: 1},
		{Length: 4, Distance: -1}, {Length: 4, Distance: 8193}, {Length: 4, Distance: 65537}, {Length: 4, Distance: math.MaxInt}, {Length: 4, Distance: math.MinInt},
		{Literals: "a", Length: 4, Distance: 1}, {Literals: "a", Length: 4}, {Literals: "a", Distance: 1}, {Literals: "a", Length: -1}, {Literals: "a", Distance: -1},
	} {
		for _, tokens := range [][]lz.Token{{wrong}, {wrong, {Literals: "q"}}, {{Literals: "q"}, wrong}, {{Length: 4, Distance: 1}, wrong, {Literals: "q"}}} {
			if s, e := lz.Form(tokens); s != "" || e != api.ErrRange {
				t.Errorf("P4.5: Form(%v) = %x, %d", tokens, s, e)
			}
		}
	}
	for _, none := range [][]lz.Token{nil, {}} {
		if s, e := lz.Form(none); s != "" || e != api.OK {
			t.Errorf("P4.5: Form of none = %x, %d", s, e)
		}
	}
}

// TestListsAreApart: R3, of the list that Tokens answers and the one that Form is handed.
func TestListsAreApart(t *testing.T) {
	packed := "\x00a\x80\x00\x01\x00b"
	want := []lz.Token{{Literals: "a"}, {Length: 4, Distance: 1}, {Literals: "b"}}
	one, _, _ := lz.Tokens(packed)
	other, _, _ := lz.Tokens(packed)
	for i := range one[:cap(one)] {
		one[:cap(one)][i] = lz.Token{Length: 9}
	}
	if again, _, _ := lz.Tokens(packed); !slices.Equal(other, want) || !slices.Equal(again, want) {
		t.Errorf("%v, %v", other, again)
	}
	handed := append(slices.Clone(want), lz.Token{Length: 7}, lz.Token{Length: 8})
	lz.Form(handed[:3])
	if !slices.Equal(handed[:3], want) || handed[3].Length != 7 || handed[4].Length != 8 {
		t.Errorf("%v", handed)
	}
}
