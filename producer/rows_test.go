package producer_test

import (
	"math"
	"math/rand/v2"
	"testing"

	"gantry/api"
	"gantry/producer"
)

func pick[T any](dice *rand.Rand, of []T) T { return of[dice.IntN(len(of))] }

// head answers one that mostly is good, of few producers, and whose sequence mostly follows, comes again or lies near.
func (p pair) head(dice *rand.Rand) api.Head {
	h := of(dice.Int64N(5)-1, int32(dice.IntN(6)), 1+dice.IntN(3), dice.Int64N(50))
	if h.Producer == -1 {
		h.Seq = -1
	}
	if next, ok := p.m.next(h.Producer); ok && dice.IntN(3) > 0 {
		h.Seq = next
	}
	if kept := p.m.batches(h.Producer); len(kept) > 0 && dice.IntN(3) == 0 {
		again := pick(dice, kept)
		h.Seq, h.Count = again.Seq, again.Count
	}
	switch dice.IntN(40) {
	case 0:
		h.Producer = pick(dice, numbers())
	case 1:
		h.Seq = pick(dice, sequences())
	case 2:
		h.Count = pick(dice, counts())
	case 3:
		h.Base = pick(dice, numbers())
	case 4:
		h.Seq = math.MaxInt32 - int32(dice.IntN(3))
	}
	return h
}

// step does one thing to a book and its sheet.
func (p pair) step(t *testing.T, dice *rand.Rand) {
	t.Helper()
	h := p.head(dice)
	switch dice.IntN(20) {
	case 0:
		p.forget(t, pick(dice, numbers()))
	case 1, 2:
		p.forget(t, dice.Int64N(60))
	case 3, 4, 5, 6, 7, 8:
		p.check(t, h.Producer, h.Seq, h.Count)
	default:
		p.note(t, h)
	}
}

// TestRows goes through rows of calls upon several books side by side, some of them clones, one nil and one the zero Book; each is held against its sheet behind every step.
func TestRows(t *testing.T) {
	dice := rand.New(rand.NewPCG(14, 2))
	for range 150 {
		all := []pair{newPair(t), newPair(t, some()...), {&producer.Book{}, &sheet{}}, {nil, &sheet{gone: true}}}
		for range 200 {
			p := pick(dice, all)
			p.step(t, dice)
			if dice.IntN(60) == 0 {
				all = append(all, p.clone())
			}
			for _, p := range all {
				mustBe(t, p.b, p.m)
			}
		}
	}
}

// TestShortRows goes through all rows of five calls upon a book that begins empty.
func TestShortRows(t *testing.T) {
	calls := []func(p pair){
		func(p pair) { p.note(t, of(1, 0, 2, 10)) },
		func(p pair) { p.note(t, of(1, 2, 1, 5)) },
		func(p pair) { p.note(t, of(1, math.MaxInt32, 1, 20)) },
		func(p pair) { p.note(t, of(0, 0, 2, 7)) },
		func(p pair) { p.note(t, of(-1, -1, 1, 8)) },
		func(p pair) { p.forget(t, 6) },
		func(p pair) { p.forget(t, 11) },
		func(p pair) { p.forget(t, 21) },
	}
	n := len(calls)
	for row := range n * n * n * n * n {
		p := newPair(t)
		for range 5 {
			calls[row%n](p)
			row /= n
		}
		mustBe(t, p.b, p.m)
		p.check(t, 1, 0, 2)
		p.check(t, 1, 2, 1)
		p.check(t, 1, math.MaxInt32, 1)
		p.check(t, 0, 0, 2)
		mustBe(t, p.b, p.m)
	}
}
