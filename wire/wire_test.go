package wire_test

import (
	"math"
	"strings"

	"gantry/api"
	"gantry/wire"
)

// form is a call of a writer, the bytes that it lays, and the call of a reader that answers its value again.
type form struct {
	name  string
	write func(*wire.Writer)
	bytes string
	read  func(*wire.Reader) (any, api.Errno)
	value any
}

func some(data string) api.Opt { return api.Opt{Has: true, Data: data} }

func fixedForms() []form {
	var out []form
	for v, bytes := range map[uint8]string{0: "\x00", 1: "\x01", 200: "\xc8", math.MaxUint8: "\xff"} {
		out = append(out, form{"U8", func(w *wire.Writer) { w.U8(v) }, bytes, readU8, v})
	}
	for v, bytes := range map[uint16]string{0: "\x00\x00", 258: "\x01\x02", 0x8000: "\x80\x00", math.MaxUint16: "\xff\xff"} {
		out = append(out, form{"U16", func(w *wire.Writer) { w.U16(v) }, bytes, readU16, v})
	}
	for v, bytes := range map[uint32]string{0: "\x00\x00\x00\x00", 0x01020304: "\x01\x02\x03\x04", 1 << 31: "\x80\x00\x00\x00", math.MaxUint32: "\xff\xff\xff\xff"} {
		out = append(out, form{"U32", func(w *wire.Writer) { w.U32(v) }, bytes, readU32, v})
	}
	for v, bytes := range map[int32]string{0: "\x00\x00\x00\x00", -2: "\xff\xff\xff\xfe", 0x01020304: "\x01\x02\x03\x04", math.MinInt32: "\x80\x00\x00\x00", math.MaxInt32: "\x7f\xff\xff\xff"} {
		out = append(out, form{"I32", func(w *wire.Writer) { w.I32(v) }, bytes, readI32, v})
	}
	for v, bytes := range map[uint64]string{0: "\x00\x00\x00\x00\x00\x00\x00\x00", 0x0102030405060708: "\x01\x02\x03\x04\x05\x06\x07\x08", 1 << 63: "\x80\x00\x00\x00\x00\x00\x00\x00", math.MaxUint64: "\xff\xff\xff\xff\xff\xff\xff\xff"} {
		out = append(out, form{"U64", func(w *wire.Writer) { w.U64(v) }, bytes, readU64, v})
	}
	for v, bytes := range map[int64]string{0: "\x00\x00\x00\x00\x00\x00\x00\x00", -2: "\xff\xff\xff\xff\xff\xff\xff\xfe", 0x0102030405060708: "\x01\x02\x03\x04\x05\x06\x07\x08", math.MinInt64: "\x80\x00\x00\x00\x00\x00\x00\x00", math.MaxInt64: "\x7f\xff\xff\xff\xff\xff\xff\xff"} {
		out = append(out, form{"I64", func(w *wire.Writer) { w.I64(v) }, bytes, readI64, v})
	}
	return out
}

func variedForms() []form {
	nine := strings.Repeat("\xff", 9)
	long := strings.Repeat("0123456789", 20)
	var out []form
	for v, bytes := range map[uint64]string{0: "\x00", 127: "\x7f", 128: "\x80\x01", 300: "\xac\x02", math.MaxUint64: nine + "\x01"} {
		out = append(out, form{"Uvarint", func(w *wire.Writer) { w.Uvarint(v) }, bytes, readUvarint, v})
	}
	for v, bytes := range map[int64]string{0: "\x00", -1: "\x01", 1: "\x02", -64: "\x7f", 64: "\x80\x01", math.MinInt64: nine + "\x01", math.MaxInt64: "\xfe" + nine[1:] + "\x01"} {
		out = append(out, form{"Varint", func(w *wire.Writer) { w.Varint(v) }, bytes, readVarint, v})
	}
	for _, s := range []string{"", "a", "\x00\xff\x80", long} {
		out = append(out, form{"Raw", func(w *wire.Writer) { w.Raw(s) }, s, readRaw(len(s)), s})
	}
	for s, bytes := range map[string]string{"": "\x00", "ab": "\x02ab", "\xff\x00": "\x02\xff\x00", long[:127]: "\x7f" + long[:127], long[:128]: "\x80\x01" + long[:128], long: "\xc8\x01" + long} {
		out = append(out, form{"Text", func(w *wire.Writer) { w.Text(s) }, bytes, readText(len(s)), s})
	}
	for s, bytes := range map[string]string{"": "\x00", "x": "\x02x", "\xff\x00": "\x04\xff\x00", long[:63]: "\x7e" + long[:63], long[:64]: "\x80\x01" + long[:64], long: "\x90\x03" + long} {
		out = append(out, form{"Opt", func(w *wire.Writer) { w.Opt(some(s)) }, bytes, readOpt(len(s)), some(s)})
	}
	for _, data := range []string{"", "no", long} {
		out = append(out, form{"null", func(w *wire.Writer) { w.Opt(api.Opt{Data: data}) }, "\x01", readOpt(0), api.Opt{}})
	}
	return out
}

func allForms() []form { return append(fixedForms(), variedForms()...) }

func readU8(r *wire.Reader) (any, api.Errno)      { v, e := r.U8(); return v, e }
func readU16(r *wire.Reader) (any, api.Errno)     { v, e := r.U16(); return v, e }
func readU32(r *wire.Reader) (any, api.Errno)     { v, e := r.U32(); return v, e }
func readU64(r *wire.Reader) (any, api.Errno)     { v, e := r.U64(); return v, e }
func readI32(r *wire.Reader) (any, api.Errno)     { v, e := r.I32(); return v, e }
func readI64(r *wire.Reader) (any, api.Errno)     { v, e := r.I64(); return v, e }
func readUvarint(r *wire.Reader) (any, api.Errno) { v, e := r.Uvarint(); return v, e }
func readVarint(r *wire.Reader) (any, api.Errno)  { v, e := r.Varint(); return v, e }

func readRaw(n int) func(*wire.Reader) (any, api.Errno) {
	return func(r *wire.Reader) (any, api.Errno) { v, e := r.Raw(n); return v, e }
}

func readText(most int) func(*wire.Reader) (any, api.Errno) {
	return func(r *wire.Reader) (any, api.Errno) { v, e := r.Text(most); return v, e }
}

func readOpt(most int) func(*wire.Reader) (any, api.Errno) {
	return func(r *wire.Reader) (any, api.Errno) { v, e := r.Opt(most); return v, e }
}

func readPart(n int) func(*wire.Reader) (any, api.Errno) {
	return func(r *wire.Reader) (any, api.Errno) { v, e := r.Part(n); return v, e }
}

// reading is a call that reads, and the zero that it answers where it can't.
type reading struct {
	name string
	read func(*wire.Reader) (any, api.Errno)
	zero any
}

// allReadings has each call that reads, those with an argument at several.
func allReadings() []reading {
	out := []reading{
		{"U8", readU8, uint8(0)}, {"U16", readU16, uint16(0)}, {"U32", readU32, uint32(0)}, {"U64", readU64, uint64(0)},
		{"I32", readI32, int32(0)}, {"I64", readI64, int64(0)}, {"Uvarint", readUvarint, uint64(0)}, {"Varint", readVarint, int64(0)},
	}
	for _, n := range []int{math.MinInt, -1, 0, 1, math.MaxInt} {
		out = append(out,
			reading{"Raw", readRaw(n), ""}, reading{"Part", readPart(n), (*wire.Reader)(nil)},
			reading{"Text", readText(n), ""}, reading{"Opt", readOpt(n), api.Opt{}})
	}
	return out
}
