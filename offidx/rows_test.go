package offidx_test

import (
	"math/rand/v2"
	"testing"

	"gantry/api"
	"gantry/offidx"
)

func pick[T any](dice *rand.Rand, of []T) T { return of[dice.IntN(len(of))] }

// next answers a number that mostly keeps the order behind last.
func next(dice *rand.Rand, last int64) int64 {
	switch dice.IntN(40) {
	case 0:
		return pick(dice, edges())
	case 1:
		return last
	case 2:
		return last - 1
	}
	return last + 1 + dice.Int64N(5)
}

// step does one thing to an index and its sheet.
func (p pair) step(t *testing.T, dice *rand.Rand) {
	t.Helper()
	last, ok := p.m.entry(len(p.m.entries) - 1)
	if !ok {
		last = api.Entry{Key: -1, At: -1}
	}
	switch dice.IntN(12) {
	case 0:
		p.cut(t, pick(dice, numbers(len(p.m.entries))))
	case 1:
		p.cut(t, dice.IntN(len(p.m.entries)+1))
	case 2, 3:
		p.find(t, next(dice, dice.Int64N(max(last.Key, 0)/2+1)*2))
	case 4:
		p.find(t, pick(dice, edges()))
	default:
		p.add(t, api.Entry{Key: next(dice, last.Key), At: next(dice, last.At)})
	}
}

// TestRows goes through rows of calls upon several indexes side by side, some of them clones or loaded, one nil and one the zero Index; each is held against its sheet behind every step.
func TestRows(t *testing.T) {
	dice := rand.New(rand.NewPCG(10, 2))
	for range 150 {
		all := []pair{newPair(t), newPair(t, three()...), {&offidx.Index{}, &sheet{}}, {nil, &sheet{gone: true}}}
		for range 150 {
			p := pick(dice, all)
			p.step(t, dice)
			switch dice.IntN(60) {
			case 0:
				all = append(all, p.clone())
			case 1:
				x, e := offidx.Load(p.x.Bytes())
				if e != api.OK {
					t.Fatalf("P10.6: Load of an index's bytes answers %d", e)
				}
				all = append(all, pair{x, &sheet{entries: p.clone().m.entries}})
			}
			for _, p := range all {
				mustBe(t, p.x, p.m)
			}
		}
	}
}

// TestShortRows goes through all rows of five calls upon an index that begins without entries.
func TestShortRows(t *testing.T) {
	calls := []func(p pair){
		func(p pair) { p.add(t, api.Entry{Key: 0, At: 0}) },
		func(p pair) { p.add(t, api.Entry{Key: 1, At: 2}) },
		func(p pair) { p.add(t, api.Entry{Key: 2, At: 1}) },
		func(p pair) { p.add(t, api.Entry{Key: 3, At: 3}) },
		func(p pair) { p.cut(t, 0) },
		func(p pair) { p.cut(t, 1) },
		func(p pair) { p.cut(t, 2) },
		func(p pair) { p.find(t, 1) },
	}
	n := len(calls)
	for row := range n * n * n * n * n {
		p := newPair(t)
		for range 5 {
			calls[row%n](p)
			row /= n
		}
		mustBe(t, p.x, p.m)
	}
}
