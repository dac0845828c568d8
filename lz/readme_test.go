package lz_test

import (
	"slices"
	"testing"

	"gantry/api"
	"gantry/lz"
)

// TestReadmeExample runs what README.md shows.
func TestReadmeExample(t *testing.T) {
	packed := lz.Pack("abcabcabcd")
	if packed != "\x02abc\x82\x00\x03\x00d" || len(packed) > lz.Bound(10) {
		t.Errorf("%x", packed)
	}
	if s, e := lz.Unpack(packed, 10, 100); s != "abcabcabcd" || e != api.OK {
		t.Errorf("%q, %d", s, e)
	}
	if s, e := lz.Unpack(packed, 10, 9); s != "" || e != api.ErrBig {
		t.Errorf("%q, %d", s, e)
	}
	if s, e := lz.Unpack(packed, 11, 100); s != "" || e != api.ErrShort {
		t.Errorf("%q, %d", s, e)
	}
	tokens, n, e := lz.Tokens(packed)
	if !slices.Equal(tokens, []lz.Token{{Literals: "abc"}, {Length: 6, Distance: 3}, {Literals: "d"}}) || n != 9 || e != api.OK {
		t.Errorf("%v, %d, %d", tokens, n, e)
	}
	if form, e := lz.Form(tokens); form != packed || e != api.OK {
		t.Errorf("%x, %d", form, e)
	}
	if length, distance := lz.Best("abcabcabcd", 3); length != 6 || distance != 3 {
		t.Errorf("%d, %d", length, distance)
	}
}
