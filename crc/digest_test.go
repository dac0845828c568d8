package crc_test

import (
	"math/rand/v2"
	"strings"
	"testing"

	"gantry/crc"
)

// mustHave holds a digest against all that it must have taken in, twice: to ask changes nothing.
func mustHave(t *testing.T, d *crc.Digest, taken string) {
	t.Helper()
	for range 2 {
		if d.Sum() != sumOf(0, taken) || d.Len() != len(taken) {
			t.Fatalf("%X of %d bytes, not that of %q", d.Sum(), d.Len(), taken)
		}
	}
}

func TestDigestTakesPiecesIn(t *testing.T) {
	for _, s := range texts() {
		for i := range len(s) + 1 {
			d := crc.New()
			mustHave(t, d, "")
			if n := d.Write(s[:i]); n != i {
				t.Errorf("Write answers %d of %d", n, i)
			}
			mustHave(t, d, s[:i])
			if n := d.Write(s[i:]); n != len(s)-i {
				t.Errorf("Write answers %d of %d", n, len(s)-i)
			}
			mustHave(t, d, s)
		}
	}
}

func TestDigestOfTheExample(t *testing.T) {
	d := crc.New()
	for _, piece := range []string{"1", "", "234", "5678", "", "9"} {
		if n := d.Write(piece); n != len(piece) {
			t.Errorf("%q: %d", piece, n)
		}
	}
	if d.Sum() != 0xE3069283 || d.Len() != 9 {
		t.Errorf("%X, %d", d.Sum(), d.Len())
	}
}

func TestDigestWriteOfNothing(t *testing.T) {
	d := crc.New()
	if d.Write("") != 0 {
		t.Error("of nothing at first")
	}
	mustHave(t, d, "")
	d.Write("abc")
	if d.Write("") != 0 {
		t.Error("of nothing behind something")
	}
	mustHave(t, d, "abc")
}

func TestDigestReset(t *testing.T) {
	d := crc.New()
	d.Reset()
	mustHave(t, d, "")
	d.Write("abc")
	d.Reset()
	mustHave(t, d, "")
	d.Write("de")
	mustHave(t, d, "de")
	d.Reset()
	d.Reset()
	mustHave(t, d, "")
}

func TestDigestZeroIsAsNew(t *testing.T) {
	var d crc.Digest
	mustHave(t, &d, "")
	twin := d.Clone()
	if d.Write("abc") != 3 {
		t.Error("Write")
	}
	mustHave(t, &d, "abc")
	mustHave(t, twin, "")
	d.Reset()
	mustHave(t, &d, "")
	if d != *crc.New() || d != (crc.Digest{}) {
		t.Error("New's differs from the zero one")
	}
}

func TestDigestNil(t *testing.T) {
	var d *crc.Digest
	for range 2 {
		if d.Write("abc") != 0 || d.Write("") != 0 || d.Sum() != 0 || d.Len() != 0 {
			t.Error("a nil digest takes something in")
		}
		if d.Clone() != nil {
			t.Error("a clone of nil is not nil")
		}
		d.Reset()
	}
}

func TestDigestsAreApart(t *testing.T) {
	a, b := crc.New(), crc.New()
	a.Write("a")
	mustHave(t, b, "")
	b.Write("bb")
	mustHave(t, a, "a")
	mustHave(t, b, "bb")
}

func TestDigestCloneGoesItsOwnWay(t *testing.T) {
	d := crc.New()
	d.Write("1234")
	c := d.Clone()
	mustHave(t, c, "1234")
	d.Write("56789")
	mustHave(t, c, "1234")
	mustHave(t, d, "123456789")
	c.Write("x")
	mustHave(t, c, "1234x")
	mustHave(t, d, "123456789")
	d.Reset()
	mustHave(t, c, "1234x")
	d.Write("y")
	e := c.Clone()
	c.Reset()
	mustHave(t, d, "y")
	mustHave(t, e, "1234x")
	mustHave(t, c, "")
}

// TestDigestRows goes through rows of calls upon several digests, each held against the text of all that it took in.
func TestDigestRows(t *testing.T) {
	rows := rand.New(rand.NewPCG(3, 3))
	for range 200 {
		digests, taken := []*crc.Digest{crc.New()}, []string{""}
		for range 40 {
			i := rows.IntN(len(digests))
			switch rows.IntN(6) {
			case 0:
				digests[i].Reset()
				taken[i] = ""
			case 1:
				digests, taken = append(digests, digests[i].Clone()), append(taken, taken[i])
			default:
				piece := strings.Repeat(string([]byte{byte(rows.Uint32())}), rows.IntN(5))
				if n := digests[i].Write(piece); n != len(piece) {
					t.Fatalf("%d of %q", n, piece)
				}
				taken[i] += piece
			}
			for j, d := range digests {
				mustHave(t, d, taken[j])
			}
		}
	}
}
