package power_test

import (
	"math"
	"math/rand/v2"
	"slices"
	"strconv"
	"strings"
	"testing"

	"gantry/api"
	"gantry/disk"
)

func pick[T any](dice *rand.Rand, of []T) T { return of[dice.IntN(len(of))] }

func someNames() []string {
	return []string{"a", "a", "a", "b", "b", "aa", "B", "\x00", "\xff\xfe", "a\x00", "é", strings.Repeat("n", 255), strings.Repeat("n", 256), ""}
}

func edges() []int {
	return []int{math.MinInt, math.MinInt + 1, math.MinInt + 5, math.MaxInt, math.MaxInt - 1, math.MaxInt - 5, -1 << 32, 1 << 32, 1 << 30}
}

// number answers one that lies mostly within size bytes or near their edges.
func number(dice *rand.Rand, size int) int {
	if dice.IntN(12) == 0 {
		return pick(dice, edges())
	}
	return dice.IntN(size+7) - 3
}

func text(dice *rand.Rand, most int) string {
	b := make([]byte, dice.IntN(most+1))
	for i := range b {
		b[i] = byte('a' + dice.IntN(4))
	}
	return string(b)
}

func someFate(dice *rand.Rand, name string, size int) api.Fate {
	f := api.Fate{Name: name, Keep: number(dice, size)}
	for range dice.IntN(4) {
		f.Over = append(f.Over, api.Write{At: number(dice, size), Data: text(dice, size+4)})
	}
	return f
}

func someFates(dice *rand.Rand, size int) []api.Fate {
	var fates []api.Fate
	for range dice.IntN(6) {
		fates = append(fates, someFate(dice, pick(dice, someNames()), size))
	}
	return fates
}

// someDisk answers one with a few files, parts of them safe, from which something has been read.
func someDisk(dice *rand.Rand) *disk.Disk {
	d := disk.New(dice.IntN(60))
	for range dice.IntN(8) {
		name := pick(dice, someNames())
		d.Create(name)
		d.Append(name, text(dice, 9))
		d.Sync(name)
		d.Append(name, text(dice, 9))
		d.Read(name, 0, dice.IntN(3))
	}
	return d
}

func cloneFates(fates []api.Fate) []api.Fate {
	out := slices.Clone(fates)
	for i := range out {
		out[i].Over = slices.Clone(out[i].Over)
	}
	return out
}

func sameFates(a, b []api.Fate) bool {
	return slices.EqualFunc(a, b, func(f, g api.Fate) bool {
		return f.Name == g.Name && f.Keep == g.Keep && slices.Equal(f.Over, g.Over)
	})
}

// laid is a disk with three files: a has "abcdef", 2 of it safe, b "xyz", all safe, and c "123", nothing safe; 20 bytes have room, and 4 have been read by 2 calls.
func laid() *disk.Disk {
	d := disk.New(20)
	for _, name := range []string{"c", "a", "b"} {
		d.Create(name)
	}
	d.Append("a", "ab")
	d.Sync("a")
	d.Append("a", "cdef")
	d.Append("b", "xyz")
	d.Sync("b")
	d.Append("c", "123")
	d.Read("a", 1, 3)
	d.Read("c", 0, 1)
	return d
}

// crowd is a disk with as many files as may be, each with three bytes, one of them safe.
func crowd() *disk.Disk {
	d := disk.New(4 * api.MostFiles)
	for i := range api.MostFiles {
		name := strconv.Itoa(i)
		d.Create(name)
		d.Append(name, "p")
		d.Sync(name)
		d.Append(name, "qr")
	}
	return d
}

// over is a list of writes with spare room behind it, which is full of others.
func over(writes ...api.Write) []api.Write {
	full := append(slices.Clone(writes), api.Write{At: 7, Data: "spare"}, api.Write{At: 8, Data: "room"})
	return full[:len(writes)]
}

// mustLeaveFates hands a call a list of fates and sees to it that neither the list nor its spare room is changed.
func mustLeaveFates(t *testing.T, call func(fates ...api.Fate)) {
	t.Helper()
	full := []api.Fate{
		{Name: "a", Keep: 4, Over: over(api.Write{At: 1, Data: "XYZW"}, api.Write{At: 3, Data: "!"})},
		{Name: "c", Keep: 9, Over: over(api.Write{At: -1, Data: "pq"})},
		{Name: "new", Keep: 0, Over: over(api.Write{Data: "n"})},
		{Name: "spare", Keep: 1, Over: over(api.Write{Data: "s"})},
	}
	kept := cloneFates(full)
	for i := range kept {
		kept[i].Over = slices.Clone(full[i].Over[:cap(full[i].Over)])
	}
	call(full[:3]...)
	for i := range full {
		full[i].Over = full[i].Over[:cap(full[i].Over)]
	}
	if !sameFates(full, kept) {
		t.Errorf("R3: the fates that were handed in are %v, not %v", full, kept)
	}
}
