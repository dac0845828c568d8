package producer_test

import (
	"math"
	"slices"
	"testing"

	"gantry/api"
	"gantry/producer"
)

func TestNew(t *testing.T) {
	b := producer.New()
	if b == nil {
		t.Fatal("P14.1: New answers nil")
	}
	mustBe(t, b, &sheet{})
	b.Note(of(7, 0, 1, 0))
	mustBe(t, producer.New(), &sheet{})
}

// TestNoteEdges: every head of numbers at the edges, into an empty book and into one that knows most of them.
func TestNoteEdges(t *testing.T) {
	full := newPair(t)
	for _, who := range numbers() {
		for _, seq := range sequences() {
			for _, count := range counts() {
				for _, base := range numbers() {
					p := newPair(t)
					p.note(t, of(who, seq, count, base))
					full.note(t, of(who, seq, count, base))
					if n := len(p.m.list); p.b.Len() != n || len(p.b.Batches(who)) != n {
						t.Fatalf("P14.3: Note(%+v): %d producers, %+v", of(who, seq, count, base), p.b.Len(), p.b.Batches(who))
					}
				}
			}
			mustBe(t, full.b, full.m)
		}
	}
}

func TestNoteRange(t *testing.T) {
	for _, c := range []struct {
		h    api.Head
		want api.Errno
	}{
		{of(0, 0, 1, 0), api.OK},
		{of(math.MaxInt64, math.MaxInt32, api.MostRecords, api.MostOffset), api.OK},
		{of(-1, -1, 1, 0), api.OK},
		{of(-1, -1, api.MostRecords, api.MostOffset), api.OK},
		{of(-1, 0, 1, 0), api.ErrRange},
		{of(-1, -2, 1, 0), api.ErrRange},
		{of(-2, -1, 1, 0), api.ErrRange},
		{of(-2, 0, 1, 0), api.ErrRange},
		{of(math.MinInt64, math.MinInt32, 1, 0), api.ErrRange},
		{of(0, -1, 1, 0), api.ErrRange},
		{of(0, 0, 0, 0), api.ErrRange},
		{of(-1, -1, 0, 0), api.ErrRange},
		{of(0, 0, api.MostRecords+1, 0), api.ErrRange},
		{of(-1, -1, api.MostRecords+1, 0), api.ErrRange},
		{of(0, 0, 1<<32+1, 0), api.ErrRange},
		{of(0, 0, 1, -1), api.ErrRange},
		{of(-1, -1, 1, -1), api.ErrRange},
		{of(0, 0, 1, api.MostOffset+1), api.ErrRange},
		{api.Head{}, api.ErrRange},
	} {
		b := producer.New()
		if e := b.Note(c.h); e != c.want {
			t.Errorf("P14.3: Note(%+v) answers %d, not %d", c.h, e, c.want)
		}
		if known := c.want == api.OK && c.h.Producer >= 0; (b.Len() == 1) != known {
			t.Errorf("P14.3: behind Note(%+v) %d producers are known", c.h, b.Len())
		}
	}
}

// TestNoteKeepsTheLast: at most Kept batches of each producer, the others' untouched.
func TestNoteKeepsTheLast(t *testing.T) {
	if producer.Kept != 5 {
		t.Errorf("Kept is %d", producer.Kept)
	}
	p := newPair(t, of(1, 0, 1, 0), of(1, 1, 1, 1))
	for i := range int64(20) {
		p.note(t, of(2, int32(i), 1, 100+i))
		mustBe(t, p.b, p.m)
		if n := len(p.b.Batches(2)); n != min(int(i)+1, 5) {
			t.Errorf("P14.3: %d batches are kept of %d", n, i+1)
		}
		if l := p.b.Batches(2); l[len(l)-1] != of(2, int32(i), 1, 100+i) || l[0].Base != max(100, 100+i-4) {
			t.Errorf("P14.3: %+v", l)
		}
	}
	if l := p.b.Batches(1); len(l) != 2 {
		t.Errorf("P14.3: another producer's batches: %+v", l)
	}
}

// TestNoteWhateverFollows: neither the sequence nor the base offset need follow the ones ahead, and the same batch is noted again.
func TestNoteWhateverFollows(t *testing.T) {
	p := newPair(t)
	for _, h := range []api.Head{of(3, 9, 1, 50), of(3, 9, 1, 50), of(3, 0, 4, 20), of(3, math.MaxInt32, 1, 60), of(3, 7, 2, 60), of(3, 7, 2, 0), of(3, 1<<30, 65536, 1<<62)} {
		p.note(t, h)
		mustBe(t, p.b, p.m)
	}
}

// TestNoProducer: batches without a producer are taken, and nothing is known by them.
func TestNoProducer(t *testing.T) {
	p := newPair(t)
	for i := range int64(10) {
		p.note(t, of(-1, -1, 2, 2*i))
		p.check(t, -1, -1, 2)
		mustBe(t, p.b, p.m)
	}
	if p.b.Len() != 0 || len(p.b.Batches(-1)) != 0 {
		t.Errorf("P14.3: %d, %+v", p.b.Len(), p.b.Batches(-1))
	}
	if n, ok := p.b.Next(-1); n != 0 || ok {
		t.Errorf("P14.1: Next(-1) is %d, %t", n, ok)
	}
	p.forget(t, math.MaxInt64)
}

// TestRefusedChangesNothing: heads that aren't good, of a producer that is known.
func TestRefusedChangesNothing(t *testing.T) {
	p := newPair(t, of(7, 0, 3, 10), of(7, 3, 1, 13), of(0, 0, 1, 14))
	for _, h := range []api.Head{of(7, -1, 1, 20), of(7, 4, 0, 20), of(7, 4, 65537, 20), of(7, 4, 1, -1), of(7, 4, 1, 1<<62+1), of(-7, 4, 1, 20)} {
		if e := p.b.Note(h); e != api.ErrRange {
			t.Errorf("P14.3: Note(%+v) answers %d", h, e)
		}
		mustBe(t, p.b, p.m)
	}
}

// TestOtherFieldsPassedOver: of a head four fields are looked at and kept, and no others.
func TestOtherFieldsPassedOver(t *testing.T) {
	b := producer.New()
	for _, h := range []api.Head{
		{Producer: 7, Seq: 1, Count: 2, Base: 3, Length: 58, Packed: true, First: 5, Greatest: 9},
		{Producer: 7, Seq: 1, Count: 2, Base: 3, Length: -1, First: 9, Greatest: 5},
		{Producer: 7, Seq: 1, Count: 2, Base: 3, Length: math.MaxInt, First: math.MaxInt64, Greatest: math.MinInt64},
	} {
		if e := b.Note(h); e != api.OK {
			t.Errorf("P14.3: Note(%+v) answers %d", h, e)
		}
	}
	want := []api.Head{of(7, 1, 2, 3), of(7, 1, 2, 3), of(7, 1, 2, 3)}
	if l := b.Batches(7); !slices.Equal(l, want) {
		t.Errorf("P14.1: %+v", l)
	}
	if e := b.Note(api.Head{Producer: 7, Seq: 1, Base: 3, Length: 58, First: 5, Greatest: 9}); e != api.ErrRange {
		t.Errorf("P14.3: a head without a count: %d", e)
	}
}

func TestNextGoesRound(t *testing.T) {
	for _, c := range []struct {
		seq   int32
		count int
		want  int32
	}{
		{0, 1, 1},
		{0, 65536, 65536},
		{math.MaxInt32 - 1, 1, math.MaxInt32},
		{math.MaxInt32, 1, 0},
		{math.MaxInt32, 2, 1},
		{math.MaxInt32, 65536, 65535},
		{math.MaxInt32 - 65535, 65536, 0},
		{math.MaxInt32 - 65536, 65536, math.MaxInt32},
	} {
		b := producer.Of([]api.Head{of(7, 5, 5, 0), of(7, c.seq, c.count, 0), of(8, 9, 9, 0)})
		if n, ok := b.Next(7); n != c.want || !ok {
			t.Errorf("P14.1: behind %d and %d Next is %d, %t, not %d", c.seq, c.count, n, ok, c.want)
		}
	}
}

// TestProducersRise: told in rising order, in whatever order they came.
func TestProducersRise(t *testing.T) {
	p := newPair(t)
	for i := range int64(300) {
		p.note(t, of(i*7919%307<<40, 0, 1, i))
	}
	mustBe(t, p.b, p.m)
	if l := p.b.Producers(); len(l) != 300 || !slices.IsSorted(l) {
		t.Errorf("P14.1: %d", l)
	}
}

// TestAnswersAreNewMemory: lists that were answered are written over, their spare room too, and the book is as it was.
func TestAnswersAreNewMemory(t *testing.T) {
	for n := range int64(8) {
		p := newPair(t)
		for i := range n {
			p.note(t, of(7, int32(i), 1, i))
			p.note(t, of(i, int32(i), 1, i))
		}
		for range 2 {
			batches, producers := p.b.Batches(7), p.b.Producers()
			batches = batches[:cap(batches)]
			for i := range batches {
				batches[i] = of(99, 99, 99, 99)
			}
			producers = producers[:cap(producers)]
			for i := range producers {
				producers[i] = 99
			}
			mustBe(t, p.b, p.m)
		}
		kept := p.b.Batches(7)
		want := slices.Clone(kept)
		p.note(t, of(7, 9, 9, 9))
		p.forget(t, 5)
		if !slices.Equal(kept, want) {
			t.Errorf("R3: a list that was answered changes: %+v", kept)
		}
	}
}
