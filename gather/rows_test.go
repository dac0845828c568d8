package gather_test

import (
	"math"
	"math/rand/v2"
	"strings"
	"testing"

	"gantry/api"
	"gantry/gather"
)

func pick[T any](dice *rand.Rand, of []T) T { return of[dice.IntN(len(of))] }

// bounds answers some that are mostly narrow, and now and then at an edge.
func bounds(dice *rand.Rand) gather.Bounds {
	b := gather.Bounds{
		Records:  pick(dice, []int{-3, 0, 1, 2, 3, 5, 9, 40, math.MaxInt}),
		Plain:    pick(dice, []int{0, 7, 20, 60, 128, 140, 500, math.MaxInt}),
		Frame:    pick(dice, []int{0, 58, 63, 80, 130, 190, 260, 600, math.MaxInt}),
		Span:     pick(dice, []int64{math.MinInt64, -1, 0, 1, 10, 64, 1000, 1 << 40, math.MaxInt64}),
		Packed:   dice.IntN(2) == 0,
		Producer: pick(dice, []int64{-1, -1, 0, 7, math.MaxInt64}),
		Seq:      pick(dice, []int32{0, 5, math.MaxInt32 - 5, math.MaxInt32}),
	}
	if b.Producer == -1 {
		b.Seq = -1
	}
	return b
}

func opt(dice *rand.Rand, most int) api.Opt {
	return api.Opt{Has: dice.IntN(2) == 0, Data: strings.Repeat("d", dice.IntN(most))}
}

// something answers a record near a time, mostly a small one.
func something(dice *rand.Rand, near int64) api.Record {
	r := api.Record{Time: near + dice.Int64N(40) - 20}
	switch dice.IntN(12) {
	case 0:
		r.Time = pick(dice, []int64{math.MinInt64, math.MinInt64 + 1, -1, 0, 1 << 40, math.MaxInt64 - 1, math.MaxInt64})
	case 1:
		r.Time = near + pick(dice, []int64{-1000, -65, -64, 63, 64, 1000})
	}
	if dice.IntN(2) == 0 {
		return r
	}
	most := pick(dice, []int{1, 5, 30, 200})
	r.Key, r.Value = opt(dice, most), opt(dice, most)
	for range dice.IntN(4) - 1 {
		r.Headers = append(r.Headers, api.Header{Key: strings.Repeat("h", dice.IntN(4)), Value: opt(dice, 5)})
	}
	if dice.IntN(100) == 0 {
		r.Headers = make([]api.Header, 1025)
	}
	return r
}

// TestRows goes through rows of calls upon several gatherers side by side, some of them clones, one nil and one the zero Gather; each is held against its queue behind every step.
func TestRows(t *testing.T) {
	dice := rand.New(rand.NewPCG(19, 1))
	taken, refused, out := 0, 0, 0
	for range 300 {
		all := []pair{newPair(t, bounds(dice)), newPair(t, bounds(dice)), newPair(t, bounds(dice)), {&gather.Gather{}, zero()}, {nil, &queue{gone: true}}}
		near := pick(dice, []int64{0, 1000, -1 << 40})
		for range 150 {
			p := pick(dice, all)
			switch dice.IntN(25) {
			case 0:
				out += p.flush(t)
			case 1:
				if len(all) < 9 {
					all = append(all, p.clone())
				}
			default:
				n, e := p.add(t, something(dice, near))
				out += n
				if e == api.OK {
					taken++
				} else {
					refused++
				}
			}
			for _, p := range all {
				p.mustBe(t)
			}
		}
	}
	if taken < 10000 || refused < 3000 || out < 8000 {
		t.Errorf("the dice don't fall as they should: %d taken, %d refused, %d handed out", taken, refused, out)
	}
}

// TestSplitRows holds Split against a queue that is handed the same, and its batches against layer 6.
func TestSplitRows(t *testing.T) {
	dice := rand.New(rand.NewPCG(19, 2))
	whole := 0
	for range 1500 {
		b := bounds(dice)
		m := &queue{b: b}
		var good []api.Record
		var want []api.Batch
		for range dice.IntN(60) {
			r := something(dice, 0)
			x, ok, e := m.add(r)
			if e != api.OK {
				mustRefuse(t, b, append(good[:len(good):len(good)], r, r), len(good), e)
				continue
			}
			good = append(good, r)
			if ok {
				want = append(want, x)
			}
		}
		if x, ok := m.flush(); ok {
			want = append(want, x)
		}
		l := mustTake(t, b, good)
		if len(l) != len(want) {
			t.Fatalf("P19.5: Split(%+v) answers %d batches, not %d", b, len(l), len(want))
		}
		for i, x := range l {
			if !equal(x, want[i]) {
				t.Fatalf("P19.5: Split(%+v) answers %+v, not %+v", b, x, want[i])
			}
		}
		whole += len(l)
	}
	if whole < 3000 {
		t.Errorf("the dice don't fall as they should: %d batches", whole)
	}
}
