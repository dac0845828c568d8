package wire_test

import (
	"math"
	"strings"
	"testing"

	"gantry/api"
	"gantry/wire"
)

func TestWriterBegins(t *testing.T) {
	w := wire.NewWriter()
	if w.At() != 0 || w.Bytes() != "" {
		t.Errorf("P2.1: a new writer has %d bytes, %q", w.At(), w.Bytes())
	}
}

func TestWriteOne(t *testing.T) {
	for _, f := range allForms() {
		w := wire.NewWriter()
		f.write(w)
		if w.Bytes() != f.bytes || w.At() != len(f.bytes) {
			t.Errorf("P2.1: %s of %v: %q, at %d", f.name, f.value, w.Bytes(), w.At())
		}
	}
}

func TestWriteMany(t *testing.T) {
	w := wire.NewWriter()
	want := ""
	for range 20 {
		for _, f := range allForms() {
			f.write(w)
			want += f.bytes
			if w.At() != len(want) {
				t.Fatalf("P2.1: behind %s of %v at %d, want %d", f.name, f.value, w.At(), len(want))
			}
		}
	}
	if w.Bytes() != want || w.Bytes() != want || w.At() != len(want) {
		t.Error("P2.1: the bytes of many calls, asked twice")
	}
}

func TestBytesStay(t *testing.T) {
	w := wire.NewWriter()
	w.U32(7)
	old := w.Bytes()
	w.Raw(strings.Repeat("z", 1000))
	if !w.Put32(0, math.MaxUint32) || old != "\x00\x00\x00\x07" {
		t.Errorf("P2.1: what was answered became %q", old)
	}
}

func TestWritersApart(t *testing.T) {
	a, b := wire.NewWriter(), wire.NewWriter()
	a.Raw("a")
	b.Raw("bb")
	a.Raw("a")
	if a.Bytes() != "aa" || b.Bytes() != "bb" {
		t.Errorf("P2.1: %q and %q", a.Bytes(), b.Bytes())
	}
}

func TestWriteExamples(t *testing.T) {
	w := wire.NewWriter()
	w.U16(258)
	w.I32(-2)
	w.Uvarint(300)
	w.Varint(-1)
	w.Text("ab")
	w.Opt(api.Opt{})
	w.Opt(some(""))
	w.Opt(some("x"))
	if want := "\x01\x02\xff\xff\xff\xfe" + "\xac\x02\x01" + "\x02ab\x01\x00\x02x"; w.Bytes() != want {
		t.Errorf("P2.1: %q, want %q", w.Bytes(), want)
	}
}

func TestPut32(t *testing.T) {
	const nine = "abcdefghi"
	for _, c := range []struct {
		written string
		at      int
		want    string
	}{
		{nine, 0, "\x01\x02\x03\xf4efghi"},
		{nine, 1, "a\x01\x02\x03\xf4fghi"},
		{nine, 5, "abcde\x01\x02\x03\xf4"},
		{"abcd", 0, "\x01\x02\x03\xf4"},
	} {
		w := wire.NewWriter()
		w.Raw(c.written)
		if !w.Put32(c.at, 0x010203f4) || w.Bytes() != c.want || w.At() != len(c.want) {
			t.Errorf("P2.2: at %d of %q: %q", c.at, c.written, w.Bytes())
		}
		w.U8('!')
		if w.Bytes() != c.want+"!" {
			t.Errorf("P2.2: what is written next lies at %q", w.Bytes())
		}
	}
}

func TestPut32Refused(t *testing.T) {
	for _, c := range []struct {
		written string
		at      []int
	}{
		{"abcdefghi", []int{6, 7, 8, 9, 10, -1, -4, math.MaxInt, math.MaxInt - 3, math.MaxInt - 4, math.MinInt}},
		{"abcd", []int{1, 4, -1}},
		{"abc", []int{0, -1, 1, 3}},
		{"", []int{0, -1, -4, 1, math.MaxInt, math.MinInt}},
	} {
		for _, at := range c.at {
			w := wire.NewWriter()
			w.Raw(c.written)
			if w.Put32(at, 0x010203f4) || w.Bytes() != c.written || w.At() != len(c.written) {
				t.Errorf("P2.2: at %d of %q: %q", at, c.written, w.Bytes())
			}
		}
	}
}

func TestNilWriter(t *testing.T) {
	var w *wire.Writer
	for _, f := range allForms() {
		f.write(w)
		if w.At() != 0 || w.Bytes() != "" {
			t.Errorf("P2.8: a nil writer keeps %q of %s", w.Bytes(), f.name)
		}
	}
	for _, at := range []int{math.MinInt, -4, -1, 0, 1, math.MaxInt} {
		if w.Put32(at, 1) || w.At() != 0 || w.Bytes() != "" {
			t.Errorf("P2.8: a nil writer puts at %d", at)
		}
	}
}

func TestZeroWriter(t *testing.T) {
	var begun wire.Writer
	if begun.At() != 0 || begun.Bytes() != "" || begun.Put32(0, 1) {
		t.Error("P2.8: the zero writer has something written")
	}
	for _, f := range allForms() {
		var w wire.Writer
		f.write(&w)
		if w.Bytes() != f.bytes || w.At() != len(f.bytes) {
			t.Errorf("P2.8: the zero writer has %q of %s", w.Bytes(), f.name)
		}
	}
}
