package producer_test

import (
	"math"
	"testing"

	"gantry/api"
	"gantry/producer"
)

// TestCheckEdges: every producer, sequence and count at the edges, in books in which they are known, unknown or both.
func TestCheckEdges(t *testing.T) {
	books := []pair{
		newPair(t),
		newPair(t, of(7, 0, 3, 10)),
		newPair(t, of(0, math.MaxInt32, 65536, 1<<62), of(math.MaxInt64, 1<<30, 1, 0)),
		newPair(t, of(-1, -1, 1, 5)),
		{nil, &sheet{gone: true}},
	}
	for _, p := range books {
		for _, who := range numbers() {
			for _, seq := range sequences() {
				for _, count := range counts() {
					p.check(t, who, seq, count)
				}
			}
		}
		mustBe(t, p.b, p.m)
	}
}

// TestCheckEveryDistance: the edges of what is too early and what is too late, behind batches that end anywhere in the round.
func TestCheckEveryDistance(t *testing.T) {
	for _, seq := range sequences() {
		for _, count := range []int{1, 2, 65535, 65536} {
			if seq < 0 {
				continue
			}
			p := newPair(t, of(4, seq, count, 9))
			next, _ := p.m.next(4)
			for _, far := range []int64{0, 1, 2, 65535, 65536, 65537, 1<<30 - 2, 1<<30 - 1, 1 << 30, 1<<30 + 1, 1<<31 - 65537, 1<<31 - 65536, 1<<31 - 65535, 1<<31 - 2, 1<<31 - 1} {
				asked := int32((int64(next) + far) % (1 << 31))
				for _, n := range []int{1, 2, 3, 65536} {
					p.check(t, 4, asked, n)
				}
			}
		}
	}
}

func TestCheckHalves(t *testing.T) {
	b := producer.Of([]api.Head{of(7, 0, 3, 10)})
	for _, c := range []struct {
		seq  int32
		want api.Errno
	}{
		{3, api.OK},
		{4, api.ErrGap},
		{3 + 1<<30 - 1, api.ErrGap},
		{3 + 1<<30, api.ErrStale},
		{math.MaxInt32, api.ErrStale},
		{0, api.ErrStale},
		{2, api.ErrStale},
	} {
		if base, e := b.Check(7, c.seq, 1); base != 0 || e != c.want {
			t.Errorf("P14.2: Check(7, %d, 1) answers %d, %d, not 0, %d", c.seq, base, e, c.want)
		}
	}
	b = producer.Of([]api.Head{of(7, math.MaxInt32-1, 1, 10)})
	for _, c := range []struct {
		seq  int32
		want api.Errno
	}{
		{math.MaxInt32, api.OK},
		{0, api.ErrGap},
		{1<<30 - 2, api.ErrGap},
		{1<<30 - 1, api.ErrStale},
		{math.MaxInt32 - 2, api.ErrStale},
	} {
		if base, e := b.Check(7, c.seq, 1); base != 0 || e != c.want {
			t.Errorf("P14.2: behind %d, Check(7, %d, 1) answers %d, %d, not 0, %d", math.MaxInt32-1, c.seq, base, e, c.want)
		}
	}
}

// TestCheckNextAheadOfDouble: a sequence that is the next one may come, though a batch with it is kept.
func TestCheckNextAheadOfDouble(t *testing.T) {
	b := producer.Of([]api.Head{of(7, 5, 2, 10), of(7, 4, 1, 20)})
	if base, e := b.Check(7, 5, 2); base != 0 || e != api.OK {
		t.Errorf("P14.2: the next sequence, which is kept too: %d, %d", base, e)
	}
	if base, e := b.Check(7, 4, 1); base != 20 || e != api.ErrDouble {
		t.Errorf("P14.2: %d, %d", base, e)
	}
}

// TestCheckDoubleAheadOfGap: a batch that is kept is told as such, wherever its sequence lies by now.
func TestCheckDoubleAheadOfGap(t *testing.T) {
	b := producer.Of([]api.Head{of(7, 100, 2, 10), of(7, 4, 1, 20)})
	if base, e := b.Check(7, 100, 2); base != 10 || e != api.ErrDouble {
		t.Errorf("P14.2: %d, %d", base, e)
	}
	if base, e := b.Check(7, 100, 1); base != 0 || e != api.ErrGap {
		t.Errorf("P14.2: %d, %d", base, e)
	}
}

// TestCheckLastDouble: of several batches with one sequence and count the last one noted is told, whatever their base offsets are.
func TestCheckLastDouble(t *testing.T) {
	b := producer.Of([]api.Head{of(7, 5, 2, 30), of(7, 5, 2, 10), of(7, 5, 3, 40), of(7, 5, 2, 20), of(8, 5, 2, 50)})
	if base, e := b.Check(7, 5, 2); base != 20 || e != api.ErrDouble {
		t.Errorf("P14.2: %d, %d", base, e)
	}
	if base, e := b.Check(7, 5, 3); base != 40 || e != api.ErrDouble {
		t.Errorf("P14.2: %d, %d", base, e)
	}
	if base, e := b.Check(8, 5, 3); base != 0 || e != api.ErrStale {
		t.Errorf("P14.2: another producer's batch: %d, %d", base, e)
	}
}

// TestCheckDoubleAtOffset0: the base offset 0 beside ErrDouble is a batch's like any other.
func TestCheckDoubleAtOffset0(t *testing.T) {
	b := producer.Of([]api.Head{of(0, 0, 1, 0)})
	if base, e := b.Check(0, 0, 1); base != 0 || e != api.ErrDouble {
		t.Errorf("P14.2: %d, %d", base, e)
	}
}

// TestCheckDropped: of what isn't kept any more nothing is known.
func TestCheckDropped(t *testing.T) {
	b := producer.New()
	for i := range int64(producer.Kept + 1) {
		b.Note(of(7, int32(i), 1, 10+i))
	}
	if base, e := b.Check(7, 0, 1); base != 0 || e != api.ErrStale {
		t.Errorf("P14.2: a batch that was dropped: %d, %d", base, e)
	}
	if base, e := b.Check(7, 1, 1); base != 11 || e != api.ErrDouble {
		t.Errorf("P14.2: the first that is kept: %d, %d", base, e)
	}
	b.Forget(12)
	if base, e := b.Check(7, 1, 1); base != 0 || e != api.ErrStale {
		t.Errorf("P14.2: a batch that was forgotten: %d, %d", base, e)
	}
	b.Forget(100)
	if base, e := b.Check(7, 1, 1); base != 0 || e != api.OK {
		t.Errorf("P14.2: a producer that was forgotten: %d, %d", base, e)
	}
}
