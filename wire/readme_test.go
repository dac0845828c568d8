package wire_test

import (
	"testing"

	"gantry/api"
	"gantry/wire"
)

// TestReadmeExample runs what README.md shows.
func TestReadmeExample(t *testing.T) {
	w := wire.NewWriter()
	w.U32(0)
	w.Text("ab")
	w.Opt(api.Opt{})
	w.Put32(0, uint32(w.At()-4))
	if w.Bytes() != "\x00\x00\x00\x04\x02ab\x01" {
		t.Errorf("%q", w.Bytes())
	}
	r := wire.NewReader(w.Bytes())
	n, _ := r.U32()
	body, _ := r.Part(int(n))
	text, _ := body.Text(100)
	null, _ := body.Opt(100)
	if n != 4 || text != "ab" || null.Has || body.Done() != api.OK {
		t.Errorf("%d, %q, %v, %d", n, text, null, body.Done())
	}
	if v, e := r.U8(); v != 0 || e != api.ErrShort || r.Done() != api.ErrShort {
		t.Errorf("%d, %d, %d", v, e, r.Done())
	}
}
