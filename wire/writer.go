package wire

import (
	"gantry/api"
	"gantry/varint"
)

// Writer lays forms one behind the other. The zero Writer has nothing written; a nil one keeps nothing.
type Writer struct {
	sheet
}

// NewWriter answers a writer with nothing written.
func NewWriter() *Writer { return &Writer{} }

// At answers how many bytes are written.
func (w *Writer) At() int { return w.target().At() }

// Bytes answers all that is written so far.
func (w *Writer) Bytes() string { return string(w.target().bytes) }

// U8 writes 1 byte.
func (w *Writer) U8(v uint8) { w.target().number(uint64(v), 1) }

// U16 writes 2 bytes, great end first.
func (w *Writer) U16(v uint16) { w.target().number(uint64(v), 2) }

// U32 writes 4 bytes, great end first.
func (w *Writer) U32(v uint32) { w.target().number(uint64(v), 4) }

// U64 writes 8 bytes, great end first.
func (w *Writer) U64(v uint64) { w.target().number(v, 8) }

// I32 writes v modulo 2^32 as U32 does.
func (w *Writer) I32(v int32) { w.U32(uint32(v)) }

// I64 writes v modulo 2^64 as U64 does.
func (w *Writer) I64(v int64) { w.U64(uint64(v)) }

// Uvarint writes layer 1's form of v.
func (w *Writer) Uvarint(v uint64) { w.Raw(varint.Put(v)) }

// Varint writes layer 1's form of v's zigzag.
func (w *Writer) Varint(v int64) { w.Raw(varint.PutSigned(v)) }

// Raw writes the bytes of s themselves.
func (w *Writer) Raw(s string) { w.target().raw(s) }

// Text writes the length of s and its bytes.
func (w *Writer) Text(s string) {
	w.Uvarint(uint64(len(s)))
	w.Raw(s)
}

// Opt writes the length of o's text and its bytes, or that o is null.
func (w *Writer) Opt(o api.Opt) {
	if !o.Has {
		w.Varint(null)
		return
	}
	w.Varint(int64(len(o.Data)))
	w.Raw(o.Data)
}

// Put32 writes v over the four bytes from at on, if so many are written there.
func (w *Writer) Put32(at int, v uint32) bool { return w.target().overwrite(at, v) }

// target is where w's bytes go: those of a nil writer to a sheet that nobody sees.
func (w *Writer) target() *sheet {
	if w == nil {
		return &sheet{}
	}
	return &w.sheet
}

// null stands in place of a length, which is never below 0.
const null = -1

// sheet is what is written, and the place behind it.
type sheet struct {
	place
	bytes []byte
}

func (s *sheet) raw(text string) {
	s.bytes = append(s.bytes, text...)
	s.pass(len(text))
}

func (s *sheet) number(v uint64, size int) {
	for i := size - 1; i >= 0; i-- {
		s.bytes = append(s.bytes, byte(v>>(8*i)))
	}
	s.pass(size)
}

func (s *sheet) overwrite(at int, v uint32) bool {
	// The four are taken from the number written, not added to at, which may be the greatest int.
	if at < 0 || at > s.At()-4 {
		return false
	}
	for i := range 4 {
		s.bytes[at+i] = byte(v >> (8 * (3 - i)))
	}
	return true
}
