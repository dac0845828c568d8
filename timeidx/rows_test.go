package timeidx_test

import (
	"math/rand/v2"
	"testing"

	"gantry/api"
	"gantry/timeidx"
)

func pick[T any](dice *rand.Rand, of []T) T { return of[dice.IntN(len(of))] }

// next answers a number that mostly keeps the order behind last, if it may go on by least or more.
func next(dice *rand.Rand, last, least int64) int64 {
	switch dice.IntN(40) {
	case 0:
		return pick(dice, edges())
	case 1:
		return last
	case 2:
		return last - 1
	}
	return last + least + dice.Int64N(4)
}

// step does one thing to an index and its sheet.
func (p pair) step(t *testing.T, dice *rand.Rand) {
	t.Helper()
	last, ok := p.m.entry(len(p.m.entries) - 1)
	if !ok {
		last = api.Entry{Key: -20, At: -1}
	}
	switch dice.IntN(12) {
	case 0:
		p.cut(t, pick(dice, numbers(len(p.m.entries))))
	case 1:
		p.cut(t, dice.IntN(len(p.m.entries)+1))
	case 2, 3:
		e, _ := p.m.entry(dice.IntN(len(p.m.entries) + 1))
		p.find(t, next(dice, e.Key, 0))
	case 4:
		p.find(t, pick(dice, edges()))
	default:
		p.push(t, api.Entry{Key: next(dice, last.Key, 0), At: next(dice, last.At, 1)})
	}
}

// TestRows goes through rows of calls upon several indexes side by side, some of them clones or read from bytes, one nil and one the zero Index; each is held against its sheet behind every step.
func TestRows(t *testing.T) {
	dice := rand.New(rand.NewPCG(11, 2))
	for range 150 {
		all := []pair{newPair(t), newPair(t, three()...), {&timeidx.Index{}, &sheet{}}, {nil, &sheet{gone: true}}}
		for range 150 {
			p := pick(dice, all)
			p.step(t, dice)
			switch dice.IntN(60) {
			case 0:
				all = append(all, p.clone())
			case 1:
				x, e := timeidx.Read(p.x.Bytes())
				if e != api.OK {
					t.Fatalf("P11.5: Read of an index's bytes answers %d", e)
				}
				all = append(all, pair{x, &sheet{entries: p.clone().m.entries}})
			}
			for _, p := range all {
				mustBe(t, p.x, p.m)
			}
		}
	}
}

// TestShortRows goes through all rows of five calls upon an index that begins without entries.
func TestShortRows(t *testing.T) {
	calls := []func(p pair){
		func(p pair) { p.push(t, api.Entry{Key: 0, At: 0}) },
		func(p pair) { p.push(t, api.Entry{Key: 0, At: 2}) },
		func(p pair) { p.push(t, api.Entry{Key: 2, At: 1}) },
		func(p pair) { p.push(t, api.Entry{Key: -3, At: 3}) },
		func(p pair) { p.cut(t, 0) },
		func(p pair) { p.cut(t, 1) },
		func(p pair) { p.cut(t, 2) },
		func(p pair) { p.find(t, 1) },
	}
	n := len(calls)
	for row := range n * n * n * n * n {
		p := newPair(t)
		for range 5 {
			calls[row%n](p)
			row /= n
		}
		mustBe(t, p.x, p.m)
	}
}
