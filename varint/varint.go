// Package varint is layer 1: whole numbers as few bytes, seven bits a byte, the lowest first; signed ones by zigzag. See shared/doc/01-varint.md.
package varint

import (
	"math/bits"

	"gantry/api"
)

const (
	more   = 0x80 // the bit that says: another byte follows
	tenth  = 9    // the place of the last byte that a number of 64 bits can have
	ofByte = 7    // how many of a number's bits a byte holds
)

// Unsigned is the kinds of whole numbers from 0 on, and what is made from them.
type Unsigned interface {
	~uint | ~uint8 | ~uint16 | ~uint32 | ~uint64
}

// Signed is the kinds of whole numbers below 0 too, and what is made from them.
type Signed interface {
	~int | ~int8 | ~int16 | ~int32 | ~int64
}

// Put answers the forms of values, one behind the other.
func Put[T Unsigned](values ...T) string {
	var out []byte
	for _, v := range values {
		out = appendForm(out, uint64(v))
	}
	return string(out)
}

// PutSigned answers the forms of the zigzags of values, one behind the other.
func PutSigned[T Signed](values ...T) string {
	var out []byte
	for _, v := range values {
		out = appendForm(out, Zigzag(int64(v)))
	}
	return string(out)
}

// Read answers the number that s begins with and how many bytes it took, or an error.
func Read[T Unsigned](s string) (T, int, api.Errno) {
	u, n, e := readForm(s)
	if e != api.OK {
		return 0, 0, e
	}
	v := T(u)
	if uint64(v) != u {
		return 0, 0, api.ErrRange
	}
	return v, n, api.OK
}

// ReadSigned answers the number whose zigzag s begins with and how many bytes it took, or an error.
func ReadSigned[T Signed](s string) (T, int, api.Errno) {
	u, n, e := readForm(s)
	if e != api.OK {
		return 0, 0, e
	}
	wide := Unzigzag(u)
	v := T(wide)
	if int64(v) != wide {
		return 0, 0, api.ErrRange
	}
	return v, n, api.OK
}

// ReadAll answers all numbers of s and its length; or none, the offset at which the first that can't be read begins, and why it can't.
func ReadAll(s string) ([]uint64, int, api.Errno) {
	var out []uint64
	at := 0
	for at < len(s) {
		v, n, e := readForm(s[at:])
		if e != api.OK {
			return nil, at, e
		}
		out = append(out, v)
		at += n
	}
	return out, at, api.OK
}

// Size answers how many bytes the form of v has.
func Size[T Unsigned](v T) int {
	return formSize(uint64(v))
}

// SizeSigned answers how many bytes the form of the zigzag of v has.
func SizeSigned[T Signed](v T) int {
	return formSize(Zigzag(int64(v)))
}

// Zigzag answers 2v of a v from 0 on, -2v - 1 of a v below 0.
func Zigzag(v int64) uint64 {
	// The shift to the right leaves the sign alone in all bits, so that a v below 0 is turned over: -2v - 1 is what 2v is not, bit by bit.
	return uint64(v)<<1 ^ uint64(v>>63)
}

// Unzigzag answers the number whose zigzag is u.
func Unzigzag(u uint64) int64 {
	half := int64(u >> 1)
	if u&1 == 1 {
		return -half - 1
	}
	return half
}

func appendForm(out []byte, v uint64) []byte {
	for v >= more {
		out = append(out, byte(v)|more)
		v >>= ofByte
	}
	return append(out, byte(v))
}

func readForm(s string) (uint64, int, api.Errno) {
	var v uint64
	for i := 0; i < len(s); i++ {
		b := s[i]
		// The tenth byte has room for one bit alone, so it always ends the number or is refused.
		if i == tenth && b > 1 || i > 0 && b == 0 {
			return 0, 0, api.ErrVarint
		}
		v |= uint64(b&^more) << (ofByte * i)
		if b < more {
			return v, i + 1, api.OK
		}
	}
	return 0, 0, api.ErrShort
}

func formSize(v uint64) int {
	// 0 has no bits of its own, and yet takes a byte.
	return (bits.Len64(v|1) + ofByte - 1) / ofByte
}
