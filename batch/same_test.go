package batch_test

import (
	"math"
	"slices"
	"strings"
	"testing"

	"gantry/api"
	"gantry/batch"
)

func TestRebase(t *testing.T) {
	s := encoded(t, one())
	long := s + strings.Repeat("\xff", 100)
	for _, c := range []struct {
		name  string
		frame string
		base  int64
		want  string
		e     api.Errno
	}{
		{"the example", s, 9, "\x00\x00\x00\x00\x00\x00\x00\x09" + s[8:], api.OK},
		{"its own", s, 3, s, api.OK},
		{"0", s, 0, "\x00\x00\x00\x00\x00\x00\x00\x00" + s[8:], api.OK},
		{"all bytes", s, 0x0102030405060708, "\x01\x02\x03\x04\x05\x06\x07\x08" + s[8:], api.OK},
		{"the last", s, api.MostOffset - 1, "\x3f\xff\xff\xff\xff\xff\xff\xff" + s[8:], api.OK},
		{"beyond the last", s, api.MostOffset, "", api.ErrRange},
		{"the greatest", s, math.MaxInt64, "", api.ErrRange},
		{"-1", s, -1, "", api.ErrRange},
		{"the least", s, math.MinInt64, "", api.ErrRange},
		{"short", "short", 9, "", api.ErrShort},
		{"none", "", 9, "", api.ErrShort},
		{"50 bytes", s[:50], 9, "", api.ErrShort},
		{"50 bytes, and no base", s[:50], -1, "", api.ErrShort},
		{"51 bytes", s[:51], 9, "\x00\x00\x00\x00\x00\x00\x00\x09" + s[8:51], api.OK},
		{"no frame", strings.Repeat("\xff", 60), 9, "\x00\x00\x00\x00\x00\x00\x00\x09" + strings.Repeat("\xff", 52), api.OK},
		{"bytes behind", long, 9, "\x00\x00\x00\x00\x00\x00\x00\x09" + long[8:], api.OK},
	} {
		if got, e := batch.Rebase(c.frame, c.base); got != c.want || e != c.e {
			t.Errorf("P6.6: %s: %s, %d, want %s, %d", c.name, short(got), e, short(c.want), c.e)
		}
	}
}

func TestRebaseBeyondAFrame(t *testing.T) {
	long := strings.Repeat("x", api.MostFrame+1)
	if got, e := batch.Rebase(long, 1); e != api.OK || len(got) != len(long) || got[8:] != long[8:] {
		t.Errorf("P6.6: %d bytes, %d", len(got), e)
	}
}

// TestRebaseStaysRight sees to it that a right frame stays one as long as there are offsets for all its records.
func TestRebaseStaysRight(t *testing.T) {
	for _, packed := range []bool{false, true} {
		b := three(packed)
		s := encoded(t, b)
		for _, base := range []int64{0, 1, 1 << 40, api.MostOffset - 4, api.MostOffset - 3} {
			b.Base = base
			got, e := batch.Rebase(s, base)
			if e != api.OK || got != encoded(t, b) {
				t.Errorf("P6.6: %d: %s, %d", base, short(got), e)
			}
			expectCheck(t, "rebased", got, api.OK)
		}
		for _, base := range []int64{api.MostOffset - 2, api.MostOffset - 1} {
			got, e := batch.Rebase(s, base)
			if e != api.OK {
				t.Errorf("P6.6: %d: %d", base, e)
			}
			expectCheck(t, "rebased too far", got, api.ErrBatch)
		}
	}
}

func TestSame(t *testing.T) {
	for _, c := range []struct {
		name string
		turn func(*api.Batch)
		same bool
	}{
		{"nothing", func(b *api.Batch) {}, true},
		{"Base", func(b *api.Batch) { b.Base++ }, false},
		{"Packed", func(b *api.Batch) { b.Packed = !b.Packed }, false},
		{"Producer", func(b *api.Batch) { b.Producer++ }, false},
		{"Seq", func(b *api.Batch) { b.Seq++ }, false},
		{"a record less", func(b *api.Batch) { b.Records = b.Records[:2] }, false},
		{"another less", func(b *api.Batch) { b.Records = b.Records[1:] }, false},
		{"none", func(b *api.Batch) { b.Records = nil }, false},
		{"a record more", func(b *api.Batch) { b.Records = append(b.Records, api.Record{}) }, false},
		{"the order", func(b *api.Batch) { slices.Reverse(b.Records) }, false},
		{"Time", func(b *api.Batch) { b.Records[2].Time++ }, false},
		{"Key", func(b *api.Batch) { b.Records[2].Key.Data += "x" }, false},
		{"Key null, not empty", func(b *api.Batch) { b.Records[0].Key = api.Opt{} }, false},
		{"Key empty, not null", func(b *api.Batch) { b.Records[1].Key = some("") }, false},
		{"Key null, with Data", func(b *api.Batch) { b.Records[1].Key.Data = "passed over" }, true},
		{"Value", func(b *api.Batch) { b.Records[0].Value.Data = "x" }, false},
		{"Value empty, not null", func(b *api.Batch) { b.Records[2].Value = some("") }, false},
		{"Value null, with Data", func(b *api.Batch) { b.Records[2].Value.Data = "passed over" }, true},
		{"a header's key", func(b *api.Batch) { b.Records[1].Headers[0].Key = "x" }, false},
		{"a header's value", func(b *api.Batch) { b.Records[1].Headers[0].Value.Data = "x" }, false},
		{"a header's value null, not empty", func(b *api.Batch) { b.Records[1].Headers[2].Value = api.Opt{} }, false},
		{"a header's value null, with Data", func(b *api.Batch) { b.Records[1].Headers[1].Value.Data = "passed over" }, true},
		{"a header less", func(b *api.Batch) { b.Records[1].Headers = b.Records[1].Headers[:2] }, false},
		{"a header more", func(b *api.Batch) { b.Records[0].Headers = make([]api.Header, 1) }, false},
		{"an empty list of headers", func(b *api.Batch) { b.Records[0].Headers = []api.Header{} }, true},
		{"the headers' order", func(b *api.Batch) { slices.Reverse(b.Records[1].Headers) }, false},
	} {
		a, b := three(false), three(false)
		c.turn(&b)
		if batch.Same(a, b) != c.same || batch.Same(b, a) != c.same {
			t.Errorf("P6.8: %s: not %v", c.name, c.same)
		}
	}
	if !batch.Same(api.Batch{}, api.Batch{Records: []api.Record{}}) {
		t.Error("P6.8: a list of none isn't a nil one")
	}
}
