package producer_test

import (
	"math"
	"testing"

	"gantry/api"
	"gantry/producer"
)

// TestCloneGoesItsOwnWay: whatever is done to one of two twins isn't seen in the other.
func TestCloneGoesItsOwnWay(t *testing.T) {
	changes := []func(p pair){
		func(p pair) { p.note(t, of(7, 6, 1, 30)) },
		func(p pair) { p.note(t, of(5, 0, 1, 31)) },
		func(p pair) {
			for i := range int64(7) {
				p.note(t, of(8, int32(2+i), 1, 32+i))
			}
		},
		func(p pair) { p.forget(t, 15) },
		func(p pair) { p.forget(t, 21) },
		func(p pair) { p.forget(t, 100) },
		func(p pair) {
			p.forget(t, 100)
			p.note(t, of(7, 9, 9, 9))
		},
	}
	for _, begin := range [][]api.Head{nil, some(), append(some(), some()...)} {
		for _, first := range changes {
			for _, second := range changes {
				one := newPair(t, begin...)
				two := one.clone()
				mustBe(t, two.b, two.m)
				first(one)
				mustBe(t, two.b, two.m)
				second(two)
				mustBe(t, one.b, one.m)
				mustBe(t, two.b, two.m)
				three := two.clone()
				first(two)
				mustBe(t, three.b, three.m)
			}
		}
	}
}

func TestCloneIsTheSameInAll(t *testing.T) {
	p := newPair(t, some()...).clone()
	for _, who := range numbers() {
		for _, seq := range sequences() {
			for _, count := range counts() {
				p.check(t, who, seq, count)
			}
		}
	}
	p.check(t, 7, 3, 2)
	p.check(t, 8, 1, 1)
	p.forget(t, 21)
	mustBe(t, p.b, p.m)
}

func TestZeroBook(t *testing.T) {
	var zero producer.Book
	mustBe(t, zero.Clone(), &sheet{})
	if n := zero.Forget(math.MaxInt64); n != 0 {
		t.Errorf("P14.6: Forget of the zero book answers %d", n)
	}
	for _, p := range []pair{{&producer.Book{}, &sheet{}}, {&zero, &sheet{}}, {zero.Clone(), &sheet{}}} {
		mustBe(t, p.b, p.m)
		p.check(t, 7, 9, 1)
		p.note(t, of(-1, -1, 1, 0))
		p.note(t, of(7, 9, 1, 1))
		p.check(t, 7, 9, 1)
		mustBe(t, p.b, p.m)
	}
}

func TestNil(t *testing.T) {
	var b *producer.Book
	p := pair{b, &sheet{gone: true}}
	for range 2 {
		for _, n := range numbers() {
			p.forget(t, n)
			for _, seq := range sequences() {
				for _, count := range counts() {
					p.check(t, n, seq, count)
					p.note(t, of(n, seq, count, 0))
					p.note(t, of(0, seq, count, n))
				}
			}
		}
		mustBe(t, p.b, p.m)
	}
	if b.Clone() != nil {
		t.Error("P14.6: a clone of nil is not nil")
	}
	for _, c := range []struct {
		h    api.Head
		want api.Errno
	}{
		{of(7, 0, 1, 0), api.ErrNone},
		{of(-1, -1, 1, 0), api.ErrNone},
		{of(7, -1, 1, 0), api.ErrRange},
		{of(-1, -1, 0, 0), api.ErrRange},
		{api.Head{}, api.ErrRange},
	} {
		if e := b.Note(c.h); e != c.want {
			t.Errorf("P14.6: Note(%+v) of nil answers %d, not %d", c.h, e, c.want)
		}
	}
	if base, e := b.Check(7, 99, 1); base != 0 || e != api.OK {
		t.Errorf("P14.6: Check of nil answers %d, %d", base, e)
	}
	if base, e := b.Check(7, 99, 0); base != 0 || e != api.ErrRange {
		t.Errorf("P14.6: Check of nil answers %d, %d", base, e)
	}
}
