package crc_test

import (
	"testing"

	"gantry/crc"
)

// TestReadmeExample runs what README.md shows.
func TestReadmeExample(t *testing.T) {
	whole := crc.Sum("123456789")
	first, second := crc.Sum("1234"), crc.Sum("56789")
	a := crc.More(first, "56789")
	b := crc.Join(first, second, 5)
	c := crc.Behind(whole, first, 5)
	if whole != 0xE3069283 || a != whole || b != whole || c != second {
		t.Errorf("%X, %X, %X, %X", whole, a, b, c)
	}
	z := crc.Fix(first, 7)
	if len(z) != 4 || crc.Sum("1234"+z) != 7 {
		t.Errorf("%q", z)
	}
	d := crc.New()
	d.Write("1234")
	twin := d.Clone()
	d.Write("56789")
	if d.Sum() != whole || d.Len() != 9 || twin.Sum() != first || twin.Len() != 4 {
		t.Errorf("%X of %d, %X of %d", d.Sum(), d.Len(), twin.Sum(), twin.Len())
	}
}
