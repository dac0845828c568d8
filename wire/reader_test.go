package wire_test

import (
	"math"
	"strings"
	"testing"

	"gantry/api"
	"gantry/wire"
)

// expectFailed holds a reader against what it must be once a call has failed: where it stands, and every call answers that error.
func expectFailed(t *testing.T, r *wire.Reader, at, left int, e api.Errno) {
	t.Helper()
	for range 2 {
		if r.At() != at || r.Left() != left || r.Err() != e || r.Done() != e {
			t.Errorf("P2.4: at %d, left %d, Err %d, Done %d; want %d, %d, %d", r.At(), r.Left(), r.Err(), r.Done(), at, left, e)
		}
		for _, c := range allReadings() {
			if v, got := c.read(r); v != c.zero || got != e {
				t.Errorf("P2.4: %s behind the error: %v, %d, want %d", c.name, v, got, e)
			}
		}
	}
}

func TestReaderBegins(t *testing.T) {
	for _, s := range []string{"", "a", "abc"} {
		r := wire.NewReader(s)
		if r.At() != 0 || r.Left() != len(s) || r.Err() != api.OK {
			t.Errorf("P2.3: a new reader of %q: at %d, left %d, Err %d", s, r.At(), r.Left(), r.Err())
		}
	}
}

func TestReadOne(t *testing.T) {
	for _, f := range allForms() {
		for _, behind := range []string{"", "\x00", "\xff\x80\x01"} {
			r := wire.NewReader(f.bytes + behind)
			v, e := f.read(r)
			if v != f.value || e != api.OK {
				t.Errorf("P2.4: %s of %q: %v, %d, want %v", f.name, f.bytes, v, e, f.value)
			}
			if r.At() != len(f.bytes) || r.Left() != len(behind) || r.Err() != api.OK {
				t.Errorf("P2.4: behind %s at %d, left %d, Err %d", f.name, r.At(), r.Left(), r.Err())
			}
		}
	}
}

func TestReadCut(t *testing.T) {
	for _, f := range allForms() {
		for n := range len(f.bytes) {
			want := api.ErrShort
			if head := len(f.bytes) - lengthOf(f.value); n >= head && (f.name == "Text" || f.name == "Opt") {
				want = api.ErrLong
			}
			r := wire.NewReader("abc" + f.bytes[:n])
			r.Raw(3)
			if _, e := f.read(r); e != want {
				t.Errorf("P2.4: %s of the first %d bytes of %q: %d, want %d", f.name, n, f.bytes, e, want)
			}
			expectFailed(t, r, 3, n, want)
		}
	}
}

// lengthOf answers how many bytes a text has.
func lengthOf(v any) int {
	switch x := v.(type) {
	case string:
		return len(x)
	case api.Opt:
		return len(x.Data)
	}
	return 0
}

func TestReadNothing(t *testing.T) {
	for _, c := range allReadings() {
		r := wire.NewReader("")
		v, e := c.read(r)
		if e == api.OK {
			if (c.name != "Raw" && c.name != "Part") || r.Done() != api.OK || r.Err() != api.OK {
				t.Errorf("P2.4: %s of no bytes: %v, OK", c.name, v)
			}
			continue
		}
		if v != c.zero {
			t.Errorf("P2.4: %s of no bytes: %v, %d", c.name, v, e)
		}
		expectFailed(t, r, 0, 0, e)
	}
}

func TestReadWrong(t *testing.T) {
	nine := strings.Repeat("\xff", 9)
	greatest := nine + "\x01"
	for _, c := range []struct {
		name  string
		bytes string
		read  func(*wire.Reader) (any, api.Errno)
		zero  any
		want  api.Errno
	}{
		{"U8", "", readU8, uint8(0), api.ErrShort},
		{"U16", "a", readU16, uint16(0), api.ErrShort},
		{"U32", "abc", readU32, uint32(0), api.ErrShort},
		{"I32", "abc", readI32, int32(0), api.ErrShort},
		{"U64", "abcdefg", readU64, uint64(0), api.ErrShort},
		{"I64", "abcdefg", readI64, int64(0), api.ErrShort},
		{"Uvarint", "\x80", readUvarint, uint64(0), api.ErrShort},
		{"Uvarint", "\x80\x00", readUvarint, uint64(0), api.ErrVarint},
		{"Uvarint", nine + "\x02", readUvarint, uint64(0), api.ErrVarint},
		{"Varint", "\x80", readVarint, int64(0), api.ErrShort},
		{"Varint", "\xff\x00", readVarint, int64(0), api.ErrVarint},
		{"Varint", nine + "\x80", readVarint, int64(0), api.ErrVarint},
		{"Raw(-1)", "a", readRaw(-1), "", api.ErrRange},
		{"Raw(-1)", "", readRaw(-1), "", api.ErrRange},
		{"Raw(least)", "a", readRaw(math.MinInt), "", api.ErrRange},
		{"Raw(2)", "a", readRaw(2), "", api.ErrShort},
		{"Raw(1)", "", readRaw(1), "", api.ErrShort},
		{"Raw(greatest)", "abc", readRaw(math.MaxInt), "", api.ErrShort},
		{"Part(-1)", "a", readPart(-1), (*wire.Reader)(nil), api.ErrRange},
		{"Part(-1)", "", readPart(-1), (*wire.Reader)(nil), api.ErrRange},
		{"Part(least)", "a", readPart(math.MinInt), (*wire.Reader)(nil), api.ErrRange},
		{"Part(4)", "abc", readPart(4), (*wire.Reader)(nil), api.ErrShort},
		{"Part(greatest)", "abc", readPart(math.MaxInt), (*wire.Reader)(nil), api.ErrShort},
		{"Text", "", readText(9), "", api.ErrShort},
		{"Text", "\x82", readText(9), "", api.ErrShort},
		{"Text", "\x82\x00", readText(9), "", api.ErrVarint},
		{"Text: above most", "\x02ab", readText(1), "", api.ErrLong},
		{"Text: most 0", "\x01a", readText(0), "", api.ErrLong},
		{"Text: most below 0", "\x01a", readText(-1), "", api.ErrLong},
		{"Text: least most", "\x01a", readText(math.MinInt), "", api.ErrLong},
		{"Text: above what is left", "\x03ab", readText(9), "", api.ErrLong},
		{"Text: nothing is left", "\x01", readText(9), "", api.ErrLong},
		{"Text: 2^64 - 1", greatest + "ab", readText(math.MaxInt), "", api.ErrLong},
		{"Text: 2^63", strings.Repeat("\x80", 9) + "\x01ab", readText(math.MaxInt), "", api.ErrLong},
		{"Text: 2^32 + 1", "\x81\x80\x80\x80\x10ab", readText(math.MaxInt), "", api.ErrLong},
		{"Opt", "", readOpt(9), api.Opt{}, api.ErrShort},
		{"Opt", "\x84", readOpt(9), api.Opt{}, api.ErrShort},
		{"Opt", "\x84\x00", readOpt(9), api.Opt{}, api.ErrVarint},
		{"Opt: -2", "\x03", readOpt(9), api.Opt{}, api.ErrLong},
		{"Opt: -2 and bytes", "\x03abc", readOpt(9), api.Opt{}, api.ErrLong},
		{"Opt: least", greatest + "ab", readOpt(math.MaxInt), api.Opt{}, api.ErrLong},
		{"Opt: greatest", "\xfe" + nine[1:] + "\x01ab", readOpt(math.MaxInt), api.Opt{}, api.ErrLong},
		{"Opt: above most", "\x04ab", readOpt(1), api.Opt{}, api.ErrLong},
		{"Opt: most 0", "\x02a", readOpt(0), api.Opt{}, api.ErrLong},
		{"Opt: most below 0", "\x02a", readOpt(-1), api.Opt{}, api.ErrLong},
		{"Opt: least most", "\x02a", readOpt(math.MinInt), api.Opt{}, api.ErrLong},
		{"Opt: above what is left", "\x06ab", readOpt(9), api.Opt{}, api.ErrLong},
		{"Opt: nothing is left", "\x02", readOpt(9), api.Opt{}, api.ErrLong},
	} {
		for _, ahead := range []string{"", "ahead"} {
			r := wire.NewReader(ahead + c.bytes)
			r.Raw(len(ahead))
			if v, e := c.read(r); v != c.zero || e != c.want {
				t.Errorf("P2.4: %s of %q: %v, %d, want %d", c.name, c.bytes, v, e, c.want)
			}
			expectFailed(t, r, len(ahead), len(c.bytes), c.want)
		}
	}
}

func TestMost(t *testing.T) {
	for _, c := range []struct {
		name  string
		bytes string
		read  func(*wire.Reader) (any, api.Errno)
		want  any
	}{
		{"Text: just the length", "\x02ab", readText(2), "ab"},
		{"Text: more", "\x02ab", readText(math.MaxInt), "ab"},
		{"Text: most 0", "\x00", readText(0), ""},
		{"Text: most below 0", "\x00", readText(-5), ""},
		{"Text: least most", "\x00", readText(math.MinInt), ""},
		{"Opt: just the length", "\x04ab", readOpt(2), some("ab")},
		{"Opt: more", "\x04ab", readOpt(math.MaxInt), some("ab")},
		{"Opt: most 0", "\x00", readOpt(0), some("")},
		{"Opt: most below 0", "\x00", readOpt(-5), some("")},
		{"Opt: least most", "\x00", readOpt(math.MinInt), some("")},
		{"null: most 0", "\x01", readOpt(0), api.Opt{}},
		{"null: most below 0", "\x01", readOpt(-5), api.Opt{}},
		{"null: least most", "\x01", readOpt(math.MinInt), api.Opt{}},
		{"null: more", "\x01", readOpt(math.MaxInt), api.Opt{}},
	} {
		r := wire.NewReader(c.bytes)
		if v, e := c.read(r); v != c.want || e != api.OK || r.Done() != api.OK {
			t.Errorf("P2.4: %s of %q: %v, %d", c.name, c.bytes, v, e)
		}
	}
}

func TestRawOfNone(t *testing.T) {
	for _, s := range []string{"", "ab"} {
		r := wire.NewReader(s)
		if v, e := r.Raw(0); v != "" || e != api.OK || r.At() != 0 || r.Left() != len(s) || r.Err() != api.OK {
			t.Errorf("P2.4: Raw(0) of %q: %q, %d", s, v, e)
		}
		if v, e := r.Raw(len(s)); v != s || e != api.OK || r.Done() != api.OK {
			t.Errorf("P2.4: Raw of all of %q: %q, %d", s, v, e)
		}
		if v, e := r.Raw(0); v != "" || e != api.OK || r.Done() != api.OK {
			t.Errorf("P2.4: Raw(0) at the end of %q: %q, %d", s, v, e)
		}
	}
}

func TestPart(t *testing.T) {
	r := wire.NewReader("abcdefg")
	r.U8()
	p, e := r.Part(3)
	if e != api.OK || r.At() != 4 || r.Left() != 3 || r.Err() != api.OK {
		t.Fatalf("P2.5: %d, the reader at %d, left %d", e, r.At(), r.Left())
	}
	if p.At() != 0 || p.Left() != 3 || p.Err() != api.OK {
		t.Fatalf("P2.5: the part at %d, left %d", p.At(), p.Left())
	}
	if v, e := r.U8(); v != 'e' || e != api.OK || p.At() != 0 {
		t.Error("P2.5: the reader behind the part")
	}
	if v, e := p.U16(); v != 'b'<<8|'c' || e != api.OK || r.At() != 5 || p.At() != 2 {
		t.Error("P2.5: the part's first bytes")
	}
	if v, e := p.U16(); v != 0 || e != api.ErrShort || r.Err() != api.OK {
		t.Error("P2.5: a part ends where it ends, and its error is its own")
	}
	if v, e := r.U16(); v != 'f'<<8|'g' || e != api.OK || r.Done() != api.OK {
		t.Error("P2.5: the reader goes on behind the part's error")
	}
	expectFailed(t, p, 2, 1, api.ErrShort)
}

func TestPartOutlivesError(t *testing.T) {
	r := wire.NewReader("abc")
	p, _ := r.Part(2)
	if _, e := r.U16(); e != api.ErrShort || p.Err() != api.OK || p.Done() != api.ErrLeft {
		t.Error("P2.5: the reader's error is its own")
	}
	if v, e := p.U8(); v != 'a' || e != api.OK {
		t.Errorf("P2.5: the part behind the reader's error: %d, %d", v, e)
	}
	q, e := p.Part(1)
	if e != api.OK || p.Done() != api.OK || q.Done() != api.ErrLeft {
		t.Error("P2.5: a part of a part")
	}
	if v, e := q.U8(); v != 'b' || e != api.OK || q.Done() != api.OK {
		t.Errorf("P2.5: a part of a part: %d, %d", v, e)
	}
}

func TestPartOfNone(t *testing.T) {
	for _, s := range []string{"", "ab"} {
		r := wire.NewReader(s)
		p, e := r.Part(0)
		if e != api.OK || p == nil || r.At() != 0 || r.Left() != len(s) || p.Left() != 0 || p.Done() != api.OK {
			t.Errorf("P2.5: Part(0) of %q: %d", s, e)
		}
		if v, e := p.U8(); v != 0 || e != api.ErrShort || r.Err() != api.OK {
			t.Errorf("P2.5: U8 of Part(0) of %q: %d, %d", s, v, e)
		}
		whole, e := r.Part(len(s))
		if v, _ := whole.Raw(len(s)); v != s || e != api.OK || r.Done() != api.OK || whole.Done() != api.OK {
			t.Errorf("P2.5: a part of all of %q: %q, %d", s, v, e)
		}
	}
}

func TestDone(t *testing.T) {
	r := wire.NewReader("\x02ab")
	for range 2 {
		if r.Done() != api.ErrLeft || r.Err() != api.OK || r.At() != 0 {
			t.Errorf("P2.6: Done %d, Err %d", r.Done(), r.Err())
		}
	}
	if v, e := r.Text(2); v != "ab" || e != api.OK || r.Done() != api.OK || r.Err() != api.OK {
		t.Errorf("P2.6: %q, %d, Done %d", v, e, r.Done())
	}
	if _, e := r.U8(); e != api.ErrShort || r.Done() != api.ErrShort || r.Done() != api.ErrShort {
		t.Errorf("P2.6: %d, Done %d", e, r.Done())
	}
	r = wire.NewReader("abc")
	if _, e := r.U32(); e != api.ErrShort || r.Done() != api.ErrShort {
		t.Errorf("P2.6: the error goes ahead of bytes that are left: %d, %d", e, r.Done())
	}
}

func TestReadExamples(t *testing.T) {
	r := wire.NewReader("\x02ab")
	if v, e := r.Opt(9); v != some("a") || e != api.OK || r.Done() != api.ErrLeft {
		t.Errorf("P2.6: Opt: %v, %d, Done %d", v, e, r.Done())
	}
	if v, e := r.U8(); v != 98 || e != api.OK || r.Done() != api.OK {
		t.Errorf("P2.6: U8: %d, %d, Done %d", v, e, r.Done())
	}
	r = wire.NewReader("\x02ab\x05x")
	if v, e := r.Text(9); v != "ab" || e != api.OK {
		t.Errorf("P2.4: Text: %q, %d", v, e)
	}
	if v, e := r.Text(9); v != "" || e != api.ErrLong {
		t.Errorf("P2.4: Text: %q, %d", v, e)
	}
	expectFailed(t, r, 3, 2, api.ErrLong)
}

func TestNilReader(t *testing.T) {
	var r *wire.Reader
	expectNothing(t, func() *wire.Reader { return r })
	if r.Err() != api.OK || r.Done() != api.OK || r.At() != 0 || r.Left() != 0 {
		t.Error("P2.8: a nil reader keeps something")
	}
	for _, n := range []int{0, -1, 1} {
		r.Raw(n)
		r.U8()
		if r.Err() != api.OK || r.Done() != api.OK {
			t.Error("P2.8: a nil reader keeps an error")
		}
	}
}

func TestZeroReader(t *testing.T) {
	expectNothing(t, func() *wire.Reader { return &wire.Reader{} })
	var r wire.Reader
	r.U8()
	expectFailed(t, &r, 0, 0, api.ErrShort)
}

// expectNothing holds the readers that fresh answers against readers of no bytes, call by call.
func expectNothing(t *testing.T, fresh func() *wire.Reader) {
	t.Helper()
	if r := fresh(); r.At() != 0 || r.Left() != 0 || r.Err() != api.OK || r.Done() != api.OK {
		t.Errorf("P2.8: at %d, left %d, Err %d, Done %d", r.At(), r.Left(), r.Err(), r.Done())
	}
	for _, c := range allReadings() {
		v, e := c.read(fresh())
		wantV, wantE := c.read(wire.NewReader(""))
		if c.name == "Part" && e == api.OK && wantE == api.OK {
			if p := v.(*wire.Reader); p == nil || p.At() != 0 || p.Done() != api.OK {
				t.Error("P2.8: Part(0)")
			}
			continue
		}
		if v != wantV || e != wantE {
			t.Errorf("P2.8: %s: %v, %d, want %v, %d", c.name, v, e, wantV, wantE)
		}
	}
}
