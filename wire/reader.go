package wire

import (
	"gantry/api"
)

// Reader reads forms one behind the other and keeps the first error. The zero Reader is one of no bytes; so is a nil one, which keeps no error.
type Reader struct {
	cursor
	err api.Errno
}

// NewReader answers a reader that stands at the beginning of s.
func NewReader(s string) *Reader { return &Reader{cursor: cursor{bytes: s}} }

// At answers where the reader stands.
func (r *Reader) At() int { return r.source().cursor.At() }

// Left answers how many bytes are there from where the reader stands on.
func (r *Reader) Left() int { return r.source().left() }

// Err answers the error with which a call has failed, or OK.
func (r *Reader) Err() api.Errno { return r.source().err }

// U8 reads 1 byte.
func (r *Reader) U8() (uint8, api.Errno) {
	return attempt(r, func(c *cursor) uint8 { return uint8(c.number(1)) })
}

// U16 reads 2 bytes, great end first.
func (r *Reader) U16() (uint16, api.Errno) {
	return attempt(r, func(c *cursor) uint16 { return uint16(c.number(2)) })
}

// U32 reads 4 bytes, great end first.
func (r *Reader) U32() (uint32, api.Errno) {
	return attempt(r, func(c *cursor) uint32 { return uint32(c.number(4)) })
}

// U64 reads 8 bytes, great end first.
func (r *Reader) U64() (uint64, api.Errno) {
	return attempt(r, func(c *cursor) uint64 { return c.number(8) })
}

// I32 reads a number that is written modulo 2^32.
func (r *Reader) I32() (int32, api.Errno) {
	return attempt(r, func(c *cursor) int32 { return int32(c.number(4)) })
}

// I64 reads a number that is written modulo 2^64.
func (r *Reader) I64() (int64, api.Errno) {
	return attempt(r, func(c *cursor) int64 { return int64(c.number(8)) })
}

// Uvarint reads layer 1's form of a number.
func (r *Reader) Uvarint() (uint64, api.Errno) { return attempt(r, (*cursor).uvarint) }

// Varint reads layer 1's form of a number's zigzag.
func (r *Reader) Varint() (int64, api.Errno) { return attempt(r, (*cursor).varint) }

// Raw reads the next n bytes.
func (r *Reader) Raw(n int) (string, api.Errno) {
	return attempt(r, func(c *cursor) string { return c.raw(n) })
}

// Text reads a text of at most most bytes.
func (r *Reader) Text(most int) (string, api.Errno) {
	return attempt(r, func(c *cursor) string { return c.text(most) })
}

// Opt reads a text of at most most bytes, or null.
func (r *Reader) Opt(most int) (api.Opt, api.Errno) {
	return attempt(r, func(c *cursor) api.Opt { return c.opt(most) })
}

// Part answers a reader of its own over the next n bytes, and moves on behind them.
func (r *Reader) Part(n int) (*Reader, api.Errno) {
	return attempt(r, func(c *cursor) *Reader { return NewReader(c.raw(n)) })
}

// Done answers the error with which a call has failed, or else whether bytes are left.
func (r *Reader) Done() api.Errno {
	s := r.source()
	if s.err == api.OK && s.left() > 0 {
		return api.ErrLeft
	}
	return s.err
}

// source is where r's bytes come from: a nil reader's from one of no bytes, with which its error is gone too.
func (r *Reader) source() *Reader {
	if r == nil {
		return &Reader{}
	}
	return r
}

// attempt reads by read, unless r has failed already; where read gives up, r stands again where it stood, and has failed.
func attempt[T any](r *Reader, read func(*cursor) T) (value T, e api.Errno) {
	s := r.source()
	if s.err != api.OK {
		return value, s.err
	}
	stood := s.place
	defer func() {
		switch given := recover().(type) {
		case nil:
		case failure:
			s.place, s.err = stood, given.why
			e = given.why
		default:
			panic(given)
		}
	}()
	return read(&s.cursor), api.OK
}
