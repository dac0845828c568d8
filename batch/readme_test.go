package batch_test

import (
	"testing"

	"gantry/api"
	"gantry/batch"
)

// TestReadmeExample runs what README.md shows.
func TestReadmeExample(t *testing.T) {
	b := api.Batch{Base: 3, Producer: -1, Seq: -1, Records: []api.Record{{Time: 5}}}
	s, e := batch.Encode(b)
	if len(s) != 58 || e != api.OK {
		t.Errorf("%x, %d", s, e)
	}
	if n, e := batch.Size(b); n != 58 || e != api.OK {
		t.Errorf("%d, %d", n, e)
	}
	head, e := batch.Peek(s[:api.HeadSize])
	if head.Base != 3 || head.Length != 58 || head.Count != 1 || e != api.OK {
		t.Errorf("%+v, %d", head, e)
	}
	h, e := batch.Check(s+"more", 58, 7)
	if h != head || e != api.OK {
		t.Errorf("%+v, %d", h, e)
	}
	if _, e := batch.Check(s[:57], 58, 7); e != api.ErrShort {
		t.Errorf("%d", e)
	}
	if batch.Behind(h) != 4 {
		t.Errorf("%d", batch.Behind(h))
	}
	r, e := batch.Rebase(s, 9)
	if e != api.OK || r[8:] != s[8:] {
		t.Errorf("%x, %d", r, e)
	}
	again, n, e := batch.Decode(r, 58, 7)
	if n != 58 || e != api.OK || batch.Same(again, b) {
		t.Errorf("%+v, %d, %d", again, n, e)
	}
	again.Base = 3
	if !batch.Same(again, b) {
		t.Errorf("%+v", again)
	}
}
