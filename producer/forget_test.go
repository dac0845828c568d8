package producer_test

import (
	"math"
	"math/rand/v2"
	"slices"
	"testing"

	"gantry/api"
	"gantry/producer"
)

// some answers batches of three producers and of none, whose base offsets rise.
func some() []api.Head {
	return []api.Head{of(7, 0, 3, 10), of(-1, -1, 4, 13), of(8, 0, 1, 17), of(7, 3, 2, 18), of(9, 5, 1, 20), of(8, 1, 1, 21), of(7, 5, 1, 22)}
}

func TestForgetEveryOffset(t *testing.T) {
	for below := range int64(30) {
		p := newPair(t, some()...)
		p.forget(t, below)
		mustBe(t, p.b, p.m)
		// What is dropped is dropped: nothing more goes by the same offset, and nothing comes back by a lesser one.
		p.forget(t, below)
		p.forget(t, 0)
		mustBe(t, p.b, p.m)
	}
}

func TestForgetExamples(t *testing.T) {
	for _, c := range []struct {
		below int64
		gone  int
		known []int64
	}{
		{math.MinInt64, 0, []int64{7, 8, 9}},
		{0, 0, []int64{7, 8, 9}},
		{20, 0, []int64{7, 8, 9}},
		{21, 1, []int64{7, 8}},
		{22, 2, []int64{7}},
		{23, 3, nil},
		{math.MaxInt64, 3, nil},
	} {
		b := producer.Of(some())
		if gone := b.Forget(c.below); gone != c.gone {
			t.Errorf("P14.4: Forget(%d) answers %d, not %d", c.below, gone, c.gone)
		}
		if l := b.Producers(); !slices.Equal(l, c.known) {
			t.Errorf("P14.4: behind Forget(%d) %d are known, not %d", c.below, l, c.known)
		}
	}
}

// TestForgetEdges: base offsets and limits at the edges of what they may be.
func TestForgetEdges(t *testing.T) {
	for _, base := range numbers() {
		for _, below := range numbers() {
			p := newPair(t)
			p.note(t, of(7, 0, 1, base))
			p.note(t, of(8, 0, 1, 5))
			p.forget(t, below)
			mustBe(t, p.b, p.m)
		}
	}
}

// TestForgetInTheMiddle: where base offsets don't rise, those below may stand anywhere, the last one too.
func TestForgetInTheMiddle(t *testing.T) {
	for row := range 1 << 5 {
		p := newPair(t)
		for i := range 5 {
			p.note(t, of(7, int32(10*i), i+1, int64(row>>i&1)*100+int64(5-i)))
		}
		p.forget(t, 50)
		mustBe(t, p.b, p.m)
		for i := range 5 {
			p.check(t, 7, int32(10*i), i+1)
		}
		for i := range int64(6) {
			p.note(t, of(7, 60, 1, i))
			mustBe(t, p.b, p.m)
		}
	}
}

// TestForgottenComesAnew: a producer that was forgotten is as one that never was.
func TestForgottenComesAnew(t *testing.T) {
	p := newPair(t, some()...)
	p.forget(t, 100)
	p.check(t, 7, 77, 1)
	p.note(t, of(7, 77, 1, 100))
	p.check(t, 7, 5, 1)
	p.check(t, 7, 77, 1)
	mustBe(t, p.b, p.m)
}

// TestForgetLeavesRoom: Kept counts what is there, not what has been.
func TestForgetLeavesRoom(t *testing.T) {
	p := newPair(t)
	for i := range int64(5) {
		p.note(t, of(7, int32(i), 1, i))
	}
	p.forget(t, 3)
	for i := range int64(4) {
		p.note(t, of(7, int32(5+i), 1, 5+i))
		mustBe(t, p.b, p.m)
	}
	if l := p.b.Batches(7); len(l) != 5 || l[0].Base != 4 {
		t.Errorf("P14.3: %+v", l)
	}
}

func TestOfExamples(t *testing.T) {
	for _, heads := range [][]api.Head{nil, {}} {
		b := producer.Of(heads)
		if b == nil {
			t.Fatal("P14.5: Of answers nil")
		}
		mustBe(t, b, &sheet{})
	}
	heads := []api.Head{of(9, 5, 1, 0), of(-1, -1, 1, 1), of(2, 0, 1, 2), of(9, 0, 0, 3), of(9, 1, 1, 4), of(9, -1, 1, 5), of(-3, 0, 1, 6), of(4, 0, 1, -1), {}}
	b := producer.Of(heads)
	if l := b.Producers(); !slices.Equal(l, []int64{2, 9}) {
		t.Errorf("P14.5: %d", l)
	}
	if l := b.Batches(9); !slices.Equal(l, []api.Head{of(9, 5, 1, 0), of(9, 1, 1, 4)}) {
		t.Errorf("P14.5: %+v", l)
	}
}

// rising answers heads whose base offsets rise, some of them no good ones.
func rising(dice *rand.Rand) []api.Head {
	var heads []api.Head
	base := int64(0)
	for range dice.IntN(60) {
		h := of(dice.Int64N(6)-1, int32(dice.IntN(8)), dice.IntN(4), base)
		if h.Producer == -1 {
			h.Seq = int32(dice.IntN(2)) - 1
		}
		heads = append(heads, h)
		base += dice.Int64N(3)
	}
	return heads
}

// TestForgetOfRising: to forget is as never to have noted, where base offsets rise.
func TestForgetOfRising(t *testing.T) {
	dice := rand.New(rand.NewPCG(14, 1))
	for range 2000 {
		heads := rising(dice)
		given := slices.Clone(heads)
		below := dice.Int64N(70) - 2
		var left []api.Head
		for _, h := range heads {
			if h.Base >= below {
				left = append(left, h)
			}
		}
		b, want := producer.Of(heads), newPair(t, left...)
		mustBe(t, producer.Of(left), want.m)
		b.Forget(below)
		mustBe(t, b, want.m)
		if !slices.Equal(heads, given) {
			t.Fatal("R3: Of changes what it is handed")
		}
	}
}

// TestOfKeepsNoList: heads that change later, or their spare room, change nothing in the book.
func TestOfKeepsNoList(t *testing.T) {
	heads := append(make([]api.Head, 0, 20), some()...)
	spare := heads[:cap(heads)]
	b := producer.Of(heads)
	for _, h := range spare[len(heads):] {
		if h != (api.Head{}) {
			t.Errorf("R3: Of writes into spare room: %+v", h)
		}
	}
	for i := range spare {
		spare[i] = of(99, 99, 99, 99)
	}
	mustBe(t, b, newPair(t, some()...).m)
}
