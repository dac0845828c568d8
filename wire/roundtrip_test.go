package wire_test

import (
	"math/rand"
	"testing"

	"gantry/api"
	"gantry/wire"
)

func TestWrittenIsRead(t *testing.T) {
	forms := allForms()
	for seed := range int64(50) {
		chosen := choose(forms, rand.New(rand.NewSource(seed)))
		w := wire.NewWriter()
		for _, f := range chosen {
			f.write(w)
		}
		r := wire.NewReader(w.Bytes())
		for i, f := range chosen {
			if v, e := f.read(r); v != f.value || e != api.OK {
				t.Fatalf("P2.7: seed %d, call %d, %s: %v, %d, want %v", seed, i, f.name, v, e, f.value)
			}
		}
		if r.Done() != api.OK || r.At() != w.At() {
			t.Fatalf("P2.7: seed %d: Done %d, at %d of %d", seed, r.Done(), r.At(), w.At())
		}
	}
}

// choose answers up to 60 of forms, in any order.
func choose(forms []form, random *rand.Rand) []form {
	var out []form
	for range random.Intn(60) {
		out = append(out, forms[random.Intn(len(forms))])
	}
	return out
}

// TestReadIsWritten reads bytes of all kinds and writes what came of them again.
func TestReadIsWritten(t *testing.T) {
	for seed := range int64(3000) {
		random := rand.New(rand.NewSource(seed))
		s := randomBytes(random)
		r, w := wire.NewReader(s), wire.NewWriter()
		for range 20 {
			if copyOne(random.Intn(11), random.Intn(40), r, w) != api.OK {
				break
			}
		}
		if w.Bytes() != s[:r.At()] {
			t.Fatalf("P2.7: seed %d: of %q came %q", seed, s, w.Bytes())
		}
	}
}

func randomBytes(random *rand.Rand) string {
	s := make([]byte, random.Intn(80))
	for i := range s {
		// Small bytes too: they are lengths that the rest has room for.
		s[i] = byte(random.Intn([]int{4, 20, 256}[random.Intn(3)]))
	}
	return string(s)
}

// copyOne reads by one of the calls, and writes by that of the same name.
func copyOne(call, n int, r *wire.Reader, w *wire.Writer) api.Errno {
	switch call {
	case 0:
		return pass(r.U8())(w.U8)
	case 1:
		return pass(r.U16())(w.U16)
	case 2:
		return pass(r.U32())(w.U32)
	case 3:
		return pass(r.U64())(w.U64)
	case 4:
		return pass(r.I32())(w.I32)
	case 5:
		return pass(r.I64())(w.I64)
	case 6:
		return pass(r.Uvarint())(w.Uvarint)
	case 7:
		return pass(r.Varint())(w.Varint)
	case 8:
		return pass(r.Raw(n))(w.Raw)
	case 9:
		return pass(r.Text(n))(w.Text)
	}
	return pass(r.Opt(n))(w.Opt)
}

// pass hands a value that was read with OK to a call that writes.
func pass[T any](v T, e api.Errno) func(func(T)) api.Errno {
	return func(write func(T)) api.Errno {
		if e == api.OK {
			write(v)
		}
		return e
	}
}
