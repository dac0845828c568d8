package lz_test

import (
	"math/rand/v2"
	"strings"

	"gantry/api"
	"gantry/lz"
)

// The functions here are what the chapter says, word by word: what is tested is held against them.

// bestOf goes through all distances from the least on, and takes a match only if it is longer.
func bestOf(s string, p int) (length, distance int) {
	for d := 1; d <= min(p, 8192); d++ {
		n := 0
		for n < 131 && p+n < len(s) && s[p+n] == s[p-d+n] {
			n++
		}
		if n >= 4 && n > length {
			length, distance = n, d
		}
	}
	return length, distance
}

// packing answers the tokens of the section 'Packing'.
func packing(s string) []lz.Token {
	var out []lz.Token
	literals := ""
	tell := func() {
		for len(literals) > 128 {
			out = append(out, lz.Token{Literals: literals[:128]})
			literals = literals[128:]
		}
		if literals != "" {
			out = append(out, lz.Token{Literals: literals})
		}
		literals = ""
	}
	for p := 0; p < len(s); {
		length, distance := bestOf(s, p)
		if length == 0 {
			literals += s[p : p+1]
			p++
			continue
		}
		tell()
		out = append(out, lz.Token{Length: length, Distance: distance})
		p += length
	}
	tell()
	return out
}

// formOf answers the bytes of tokens of either kind.
func formOf(tokens []lz.Token) string {
	var out []byte
	for _, t := range tokens {
		if t.Length == 0 {
			out = append(out, byte(len(t.Literals)-1))
			out = append(out, t.Literals...)
		} else {
			out = append(out, byte(t.Length+124), byte(t.Distance/256), byte(t.Distance%256))
		}
	}
	return string(out)
}

// unpacking is P4.3.
func unpacking(packed string, length, most int) (string, api.Errno) {
	if length < 0 || length > most {
		return "", api.ErrBig
	}
	var out []byte
	for i := 0; i < len(packed); {
		c := int(packed[i])
		rest := packed[i+1:]
		if c <= 127 {
			if len(rest) < c+1 {
				return "", api.ErrShort
			}
			if len(out)+c+1 > length {
				return "", api.ErrLeft
			}
			out = append(out, rest[:c+1]...)
			i += 1 + c + 1
			continue
		}
		if len(rest) < 2 {
			return "", api.ErrShort
		}
		distance := int(rest[0])*256 + int(rest[1])
		if distance == 0 || distance > 8192 || distance > len(out) {
			return "", api.ErrPacked
		}
		if len(out)+c-124 > length {
			return "", api.ErrLeft
		}
		for range c - 124 {
			out = append(out, out[len(out)-distance])
		}
		i += 3
	}
	if len(out) < length {
		return "", api.ErrShort
	}
	return string(out), api.OK
}

// randomText answers n bytes of so many values.
func randomText(rows *rand.Rand, n, values int) string {
	s := make([]byte, n)
	for i := range s {
		s[i] = byte(rows.IntN(values))
	}
	return string(s)
}

// patchwork answers some n bytes: new ones, runs, and pieces of what stands up to far bytes back.
func patchwork(rows *rand.Rand, n, values, far int) string {
	var s []byte
	for len(s) < n {
		switch rows.IntN(4) {
		case 0:
			s = append(s, randomText(rows, 1+rows.IntN(20), values)...)
		case 1:
			s = append(s, strings.Repeat(string([]byte{byte(rows.IntN(values))}), 1+rows.IntN(150))...)
		default:
			if len(s) == 0 {
				continue
			}
			from := len(s) - 1 - rows.IntN(min(far, len(s)))
			for i := range 1 + rows.IntN(200) {
				s = append(s, s[from+i])
			}
		}
	}
	return string(s)
}

// shortTexts are all texts of up to 10 bytes of two values, and many of up to some 600 of few and of many.
func shortTexts() []string {
	out := []string{"", "a", "abc", "aaaaa", "abcabcabcd", "abcdXabcdYabcd", strings.Repeat("a", 140)}
	for n := range 11 {
		for bits := range 1 << n {
			s := make([]byte, n)
			for i := range s {
				s[i] = "ab"[bits>>i&1]
			}
			out = append(out, string(s))
		}
	}
	rows := rand.New(rand.NewPCG(4, 1))
	for _, values := range []int{1, 2, 3, 5, 16, 256} {
		for range 60 {
			out = append(out, randomText(rows, rows.IntN(500), values), patchwork(rows, rows.IntN(500), values, 1<<20))
		}
	}
	return out
}

// longTexts go several times through the window, with pieces that come again around its edge.
func longTexts() []string {
	rows := rand.New(rand.NewPCG(4, 2))
	out := []string{
		strings.Repeat("a", 30000),
		strings.Repeat("abc", 9000),
		randomText(rows, 30000, 256),
		randomText(rows, 12000, 2),
		randomText(rows, 12000, 20),
	}
	for _, far := range []int{8192, 8300, 20000} {
		out = append(out, patchwork(rows, 40000, 256, far), patchwork(rows, 20000, 3, far))
	}
	for _, period := range []int{8191, 8192, 8193} {
		out = append(out, strings.Repeat(randomText(rows, period, 256), 3))
	}
	return out
}

// randomTokens answers tokens of both kinds that keep the rules, as Pack would not choose them, and the bytes that they stand for.
func randomTokens(rows *rand.Rand, most int) ([]lz.Token, string) {
	var tokens []lz.Token
	text := ""
	for range rows.IntN(most + 1) {
		if text == "" || rows.IntN(2) == 0 {
			t := lz.Token{Literals: randomText(rows, pick(rows, 1, 128), 1+rows.IntN(256))}
			tokens = append(tokens, t)
			text += t.Literals
			continue
		}
		t := lz.Token{Length: pick(rows, 4, 131), Distance: pick(rows, 1, min(len(text), 8192))}
		tokens = append(tokens, t)
		for range t.Length {
			text += text[len(text)-t.Distance:][:1]
		}
	}
	return tokens, text
}

// pick answers a number from least to most, the two themselves often.
func pick(rows *rand.Rand, least, most int) int {
	switch rows.IntN(4) {
	case 0:
		return least
	case 1:
		return most
	default:
		return least + rows.IntN(most-least+1)
	}
}
