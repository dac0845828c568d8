package disk_test

import (
	"math"
	"math/rand/v2"
	"strings"
	"testing"

	"gantry/disk"
)

func someNames() []string {
	return []string{"a", "a", "a", "b", "b", "aa", "B", "\x00", "\xff\xfe", "a\x00", "é", strings.Repeat("n", 255), strings.Repeat("n", 256), ""}
}

func pick[T any](dice *rand.Rand, of []T) T { return of[dice.IntN(len(of))] }

// number answers one that lies mostly within a file's bytes or at their edges.
func number(dice *rand.Rand, size int) int {
	switch dice.IntN(12) {
	case 0:
		return pick(dice, []int{-1, math.MinInt, math.MaxInt, math.MaxInt - 1, -size, 1 << 31, 1 << 32})
	case 1:
		return size
	case 2:
		return size + 1
	}
	return dice.IntN(size + 1)
}

func text(dice *rand.Rand, most int) string {
	b := make([]byte, dice.IntN(most+1))
	for i := range b {
		b[i] = byte(dice.Uint32())
	}
	return string(b)
}

// step does one thing to a disk and its sheet.
func (p pair) step(t *testing.T, dice *rand.Rand) {
	t.Helper()
	name := pick(dice, someNames())
	size, _ := p.m.size(name)
	switch dice.IntN(11) {
	case 0, 1:
		p.create(t, name)
	case 2, 3, 4:
		p.append(t, name, text(dice, 9))
	case 5:
		p.cut(t, name, number(dice, size))
	case 6:
		p.sync(t, name)
	case 7:
		if dice.IntN(3) == 0 {
			p.remove(t, name)
		}
	case 8:
		at := number(dice, size)
		p.overwrite(t, name, at, text(dice, max(1, min(size-max(at, 0), 20))))
	default:
		at := number(dice, size)
		p.read(t, name, at, number(dice, max(0, size-max(at, 0))))
	}
}

// TestRows goes through rows of calls upon several disks side by side, some of them clones, one nil and one the zero Disk; each is held against its sheet behind every step.
func TestRows(t *testing.T) {
	dice := rand.New(rand.NewPCG(7, 1))
	for range 150 {
		all := []pair{newPair(dice.IntN(80)), newPair(10), {&disk.Disk{}, newSheet(0)}, {nil, &sheet{gone: true}}}
		for range 120 {
			p := pick(dice, all)
			p.step(t, dice)
			if dice.IntN(40) == 0 {
				all = append(all, p.clone())
			}
			for _, p := range all {
				mustBe(t, p.d, p.m)
			}
		}
	}
}

// TestShortRows goes through all rows of four calls upon a disk of three bytes with one name or two.
func TestShortRows(t *testing.T) {
	calls := []func(p pair){
		func(p pair) { p.append(t, "a", "xy") },
		func(p pair) { p.append(t, "a", "zzzzz") },
		func(p pair) { p.append(t, "a", "") },
		func(p pair) { p.cut(t, "a", 1) },
		func(p pair) { p.cut(t, "a", 0) },
		func(p pair) { p.sync(t, "a") },
		func(p pair) { p.remove(t, "a") },
		func(p pair) { p.create(t, "a") },
		func(p pair) { p.create(t, "b") },
		func(p pair) { p.append(t, "b", "pq") },
		func(p pair) { p.overwrite(t, "a", 1, "w") },
		func(p pair) { p.read(t, "a", 1, 1) },
	}
	n := len(calls)
	for row := range n * n * n * n {
		p := newPair(3)
		p.create(t, "a")
		for range 4 {
			calls[row%n](p)
			row /= n
		}
		mustBe(t, p.d, p.m)
	}
}
