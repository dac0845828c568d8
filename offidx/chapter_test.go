package offidx_test

import (
	"encoding/binary"
	"math"
	"slices"
	"testing"

	"gantry/api"
	"gantry/offidx"
)

// sheet is an index as the chapter words it, in other ways than the program's: it is walked from its first entry on, and each list is made anew. A sheet that is gone is a nil index.
type sheet struct {
	gone    bool
	entries []api.Entry
}

// inOrder tells of a whole list whether it may be an index's.
func inOrder(entries []api.Entry) bool {
	for i, e := range entries {
		if e.Key < 0 || e.At < 0 {
			return false
		}
		if i > 0 && !(e.Key > entries[i-1].Key && e.At > entries[i-1].At) {
			return false
		}
	}
	return true
}

func (m *sheet) entry(i int) (api.Entry, bool) {
	for k, e := range m.entries {
		if k == i {
			return e, true
		}
	}
	return api.Entry{}, false
}

func (m *sheet) add(e api.Entry) api.Errno {
	then := append(slices.Clone(m.entries), e)
	if !inOrder(then) {
		return api.ErrOrder
	}
	if !m.gone {
		m.entries = then
	}
	return api.OK
}

func (m *sheet) find(key int64) (api.Entry, bool) {
	var found api.Entry
	ok := false
	for _, e := range m.entries {
		if e.Key <= key {
			found, ok = e, true
		}
	}
	return found, ok
}

func (m *sheet) cut(n int) api.Errno {
	if n < 0 || n > len(m.entries) {
		return api.ErrRange
	}
	m.entries = slices.Clone(m.entries[:n])
	return api.OK
}

func (m *sheet) clone() *sheet { return &sheet{m.gone, slices.Clone(m.entries)} }

func chapterBytes(entries []api.Entry) string {
	var out []byte
	for _, e := range entries {
		out = binary.BigEndian.AppendUint64(out, uint64(e.Key))
		out = binary.BigEndian.AppendUint64(out, uint64(e.At))
	}
	return string(out)
}

// mostLooks answers 2 and the whole part of the logarithm of n to the base 2.
func mostLooks(n int) int {
	most := 2
	for n > 1 {
		n /= 2
		most++
	}
	return most
}

// mustBe holds all that an index tells against what its sheet tells.
func mustBe(t *testing.T, x *offidx.Index, m *sheet) {
	t.Helper()
	if x.Len() != len(m.entries) {
		t.Fatalf("P10.1: Len is %d, not %d", x.Len(), len(m.entries))
	}
	if got := x.Entries(); !slices.Equal(got, m.entries) {
		t.Fatalf("P10.1: Entries are %v, not %v", got, m.entries)
	}
	for _, i := range append(numbers(x.Len()), x.Len()/2, x.Len()-2) {
		mustEntry(t, x, m, i)
	}
	last, ok := x.Last()
	if want, has := m.entry(len(m.entries) - 1); last != want || ok != has {
		t.Fatalf("P10.1: Last is %v, %t, not %v, %t", last, ok, want, has)
	}
	if got := x.Bytes(); got != chapterBytes(m.entries) {
		t.Fatalf("P10.5: Bytes are %x, not those of %v", got, m.entries)
	}
}

func mustEntry(t *testing.T, x *offidx.Index, m *sheet, i int) {
	t.Helper()
	got, ok := x.Entry(i)
	if want, has := m.entry(i); got != want || ok != has {
		t.Fatalf("P10.1: Entry(%d) is %v, %t, not %v, %t", i, got, ok, want, has)
	}
}

// numbers answers those at the edges of a list of n elements, and some far off.
func numbers(n int) []int {
	return []int{math.MinInt, math.MinInt + 1, -1 << 32, -n, -1, 0, 1, n - 1, n, n + 1, 1 << 32, math.MaxInt - 1, math.MaxInt}
}

// pair is an index and its sheet, which are asked the same.
type pair struct {
	x *offidx.Index
	m *sheet
}

func newPair(t *testing.T, entries ...api.Entry) pair {
	t.Helper()
	p := pair{offidx.New(), &sheet{}}
	for _, e := range entries {
		p.add(t, e)
	}
	if p.x.Len() != len(entries) {
		t.Fatalf("not all of %v are taken", entries)
	}
	return p
}

func (p pair) add(t *testing.T, e api.Entry) {
	t.Helper()
	ahead := slices.Clone(p.m.entries)
	want := p.m.add(e)
	if got := p.x.Add(e); got != want {
		t.Fatalf("P10.2: Add(%v) behind %v answers %d, not %d", e, ahead, got, want)
	}
}

func (p pair) cut(t *testing.T, n int) {
	t.Helper()
	length := len(p.m.entries)
	want := p.m.cut(n)
	if got := p.x.Cut(n); got != want {
		t.Fatalf("P10.4: Cut(%d) of %d entries answers %d, not %d", n, length, got, want)
	}
}

// find asks twice: to ask changes nothing, and the same is answered.
func (p pair) find(t *testing.T, key int64) {
	t.Helper()
	e, ok, looks := p.x.Find(key)
	if want, has := p.m.find(key); e != want || ok != has {
		t.Fatalf("P10.3: Find(%d) in %v answers %v, %t, not %v, %t", key, p.m.entries, e, ok, want, has)
	}
	n := len(p.m.entries)
	if n == 0 && looks != 0 || n > 0 && (looks < 1 || looks > mostLooks(n)) {
		t.Fatalf("P10.3: Find(%d) looks at %d of %d entries, at most %d are allowed", key, looks, n, mostLooks(n))
	}
	if again, okAgain, looksAgain := p.x.Find(key); again != e || okAgain != ok || looksAgain != looks {
		t.Fatalf("R2: Find(%d) answers %v, %t, %d and then %v, %t, %d", key, e, ok, looks, again, okAgain, looksAgain)
	}
}

func (p pair) clone() pair { return pair{p.x.Clone(), p.m.clone()} }
