package lz

import (
	"gantry/api"
)

const (
	mostLiterals = 128
	// matchMark is the first byte of the shortest match; those below it are of literals.
	matchMark = 128
	matchSize = 3
)

// Token is a piece of a packed form: literals, with Length 0 and Distance 0, or a match, without Literals.
type Token struct {
	Literals         string
	Length, Distance int
}

// Tokens answers the tokens of a packed form and the number of its bytes; beside an error the place of the token that is wrong.
func Tokens(packed string) ([]Token, int, api.Errno) {
	var out []Token
	for at := 0; at < len(packed); {
		t, size, e := first(packed[at:])
		if e != api.OK {
			return nil, at, e
		}
		out = append(out, t)
		at += size
	}
	return out, len(packed), api.OK
}

// Form answers the packed form that has these tokens.
func Form(tokens []Token) (string, api.Errno) {
	var out []byte
	for _, t := range tokens {
		switch {
		case t.isLiterals():
			out = appendLiterals(out, t.Literals)
		case t.isMatch():
			out = appendMatch(out, t.Length, t.Distance)
		default:
			return "", api.ErrRange
		}
	}
	return string(out), api.OK
}

// first answers the token at the beginning of packed, which has bytes, and how many of them it takes.
func first(packed string) (Token, int, api.Errno) {
	if packed[0] < matchMark {
		return firstLiterals(packed)
	}
	return firstMatch(packed)
}

func firstLiterals(packed string) (Token, int, api.Errno) {
	size := 1 + int(packed[0]) + 1
	if len(packed) < size {
		return Token{}, 0, api.ErrShort
	}
	return Token{Literals: packed[1:size]}, size, api.OK
}

func firstMatch(packed string) (Token, int, api.Errno) {
	if len(packed) < matchSize {
		return Token{}, 0, api.ErrShort
	}
	t := Token{
		Length:   int(packed[0]) - matchMark + api.LeastMatch,
		Distance: int(packed[1])<<8 | int(packed[2]),
	}
	if !t.isMatch() {
		return Token{}, 0, api.ErrPacked
	}
	return t, matchSize, api.OK
}

func (t Token) isLiterals() bool {
	return t.Length == 0 && t.Distance == 0 && within(len(t.Literals), 1, mostLiterals)
}

func (t Token) isMatch() bool {
	return t.Literals == "" && within(t.Length, api.LeastMatch, api.MostMatch) && within(t.Distance, 1, api.Window)
}

func within(n, least, most int) bool { return n >= least && n <= most }

// count answers how many bytes t stands for: one of its two kinds of them is none.
func (t Token) count() int { return len(t.Literals) + t.Length }

// unpackBehind lays the bytes that t stands for behind those of out.
func (t Token) unpackBehind(out []byte) []byte {
	out = append(out, t.Literals...)
	// One by one: a match may reach into what it lays down itself.
	for range t.Length {
		out = append(out, out[len(out)-t.Distance])
	}
	return out
}

// appendLiterals lays the tokens of any number of literals behind out.
func appendLiterals(out []byte, literals string) []byte {
	for literals != "" {
		n := min(len(literals), mostLiterals)
		out = append(out, byte(n-1))
		out = append(out, literals[:n]...)
		literals = literals[n:]
	}
	return out
}

// appendMatch lays a match token behind out.
func appendMatch(out []byte, length, distance int) []byte {
	return append(out, byte(matchMark+length-api.LeastMatch), byte(distance>>8), byte(distance))
}
