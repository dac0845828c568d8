package plog_test

import (
	"math/rand/v2"
	"strconv"
	"strings"
	"testing"

	"gantry/api"
	"gantry/disk"
	"gantry/names"
	"gantry/plog"
	"gantry/power"
)

func pick[T any](dice *rand.Rand, of ...T) T { return of[dice.IntN(len(of))] }

// batchOf answers one of few producers, whose sequence mostly follows, comes again or lies near.
func batchOf(dice *rand.Rand, l *plog.Log) api.Batch {
	b := api.Batch{Packed: dice.IntN(2) == 0, Producer: dice.Int64N(4) - 1, Seq: -1}
	if b.Producer >= 0 {
		next, _ := l.Book().Next(b.Producer)
		b.Seq = max(0, next+pick[int32](dice, 0, 0, 0, 0, -1, -2, -6, 1, 4))
	}
	for range 1 + dice.IntN(3) {
		b.Records = append(b.Records, api.Record{Time: dice.Int64N(60) - 30, Value: some(strings.Repeat("v", dice.IntN(40)))})
	}
	return b
}

// crash lets the power go; the last log file keeps some of what isn't safe, with another byte in it perhaps.
func (p *pair) crash(t *testing.T, dice *rand.Rand) {
	t.Helper()
	last := p.m.last()
	size := len(last.text())
	keep := last.synced + dice.IntN(size-last.synced+1)
	fate := api.Fate{Name: nameOf(last.base, names.Log), Keep: keep}
	right := keep
	if keep > last.synced && dice.IntN(2) == 0 {
		at := last.synced + dice.IntN(keep-last.synced)
		fate.Over = []api.Write{{At: at, Data: string([]byte{last.text()[at] ^ 0x80})}}
		right = at
	}
	for len(last.text()) > right {
		last.frames = last.frames[:len(last.frames)-1]
	}
	power.Crash(p.d, fate)
	p.reopen(t)
}

// harm does harm to index files, and opens the log again.
func (p *pair) harm(t *testing.T, dice *rand.Rand) {
	t.Helper()
	for range dice.IntN(6) {
		base := pick(dice, p.m.parts...).base + pick[int64](dice, 0, 0, 0, 1)
		file := nameOf(base, pick(dice, names.Offsets, names.Times))
		f := api.Fate{Name: file, Keep: dice.IntN(60) - 10}
		for range dice.IntN(3) {
			f.Over = append(f.Over, api.Write{At: dice.IntN(40), Data: strings.Repeat("j", dice.IntN(900))})
		}
		power.Harm(p.d, f)
	}
	p.reopen(t)
}

func (p *pair) step(t *testing.T, dice *rand.Rand, name string) {
	t.Helper()
	frame := encoded(t, batchOf(dice, p.l))
	switch dice.IntN(24) {
	case 0:
		p.crash(t, dice)
	case 1:
		p.harm(t, dice)
	case 2, 3:
		p.flush(t, name)
	case 4, 5:
		p.trim(t, name, p.m.parts[0].base-2+dice.Int64N(p.m.end()-p.m.parts[0].base+4))
	case 6:
		wrong := pick(dice, frame+"x", frame[:len(frame)-1], turned(frame, 17+dice.IntN(len(frame)-17)), rebased(t, frame, 1+dice.Int64N(9)))
		if base, double, e := p.l.Append(wrong); base != 0 || double || e == api.OK {
			t.Errorf("P15.3: %s: a wrong frame: %d, %t, %d", name, base, double, e)
		}
	default:
		p.append(t, name, frame)
	}
}

// TestRows goes through rows of calls upon logs of all kinds of configs, in rooms that run out, with crashes and harm; the files are held against the sheet behind every step.
func TestRows(t *testing.T) {
	for seed := range uint64(150) {
		dice := rand.New(rand.NewPCG(seed, 15))
		c := api.Config{Segment: pick(dice, 1, 130, 300, 1000), Frame: 1000, Plain: 1000, Every: pick(dice, 1, 70, 200, 700), Room: 200 + dice.IntN(4000), First: pick[int64](dice, 0, 7, 1<<40, api.MostOffset-60)}
		p := newPair(t, c)
		for step := range 100 {
			name := "row " + strconv.Itoa(int(seed)) + ", step " + strconv.Itoa(step)
			p.step(t, dice, name)
			p.m.expectFiles(t, name, p.d)
			if step%20 == 19 {
				p.m.expect(t, name, p.l)
				p.m.expect(t, name+", opened", opened(t, p.d.Clone(), c))
			}
			if t.Failed() {
				t.FailNow()
			}
		}
	}
}

// TestShortRows goes through all rows of five calls.
func TestShortRows(t *testing.T) {
	c := config()
	c.Room = 330
	one, two, great := sent(t, 1, 0, 1), sent(t, 1, 1, 1), sized(t, 100)
	calls := []func(p *pair){
		func(p *pair) { p.append(t, "short", one) },
		func(p *pair) { p.append(t, "short", two) },
		func(p *pair) { p.append(t, "short", great) },
		func(p *pair) { p.flush(t, "short") },
		func(p *pair) { p.trim(t, "short", p.m.end()) },
		func(p *pair) {
			power.Crash(p.d)
			last := p.m.last()
			for len(last.text()) > last.synced {
				last.frames = last.frames[:len(last.frames)-1]
			}
			p.reopen(t)
		},
	}
	n := len(calls)
	for row := range n * n * n * n * n {
		p := newPair(t, c)
		for range 5 {
			calls[row%n](p)
			row /= n
		}
		p.expect(t, "a short row")
	}
}

// TestSideBySide: two logs upon disks of their own know nothing of each other.
func TestSideBySide(t *testing.T) {
	p, q := long(t), newPair(t, config())
	q.append(t, "the second", sent(t, 1, 9, 1))
	p.trim(t, "the first", 10)
	q.expect(t, "the second")
	p.expect(t, "the first")
	d := disk.New(0)
	if l := opened(t, d, config()); l.End() != 5 {
		t.Errorf("P15.1: without room the end is %d", l.End())
	}
}
