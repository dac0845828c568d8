package producer_test

import (
	"math"
	"slices"
	"testing"

	"gantry/api"
	"gantry/producer"
)

// TestReadmeExample runs what README.md shows.
func TestReadmeExample(t *testing.T) {
	b := producer.New()
	if e := b.Note(api.Head{Producer: 7, Seq: 0, Count: 3, Base: 10}); e != api.OK {
		t.Errorf("%d", e)
	}
	if next, ok := b.Next(7); next != 3 || !ok {
		t.Errorf("%d, %t", next, ok)
	}
	for _, c := range []struct {
		producer int64
		seq      int32
		count    int
		base     int64
		want     api.Errno
	}{
		{7, 3, 1, 0, api.OK},
		{7, 0, 3, 10, api.ErrDouble},
		{7, 4, 1, 0, api.ErrGap},
		{7, 2, 1, 0, api.ErrStale},
		{8, 99, 1, 0, api.OK},
	} {
		if base, e := b.Check(c.producer, c.seq, c.count); base != c.base || e != c.want {
			t.Errorf("%+v: %d, %d", c, base, e)
		}
	}
	if e := b.Note(api.Head{Producer: 7, Seq: math.MaxInt32, Count: 2, Base: 13}); e != api.OK {
		t.Errorf("%d", e)
	}
	if next, ok := b.Next(7); next != 1 || !ok {
		t.Errorf("%d, %t", next, ok)
	}
	all := b.Batches(7)
	if len(all) != 2 || !slices.Equal(producer.Of(all).Batches(7), all) {
		t.Errorf("%+v", all)
	}
	twin := b.Clone()
	if gone := b.Forget(14); gone != 1 || len(b.Producers()) != 0 || !slices.Equal(twin.Producers(), []int64{7}) {
		t.Errorf("%d, %d, %d", gone, b.Producers(), twin.Producers())
	}
}
