package timeidx_test

import (
	"encoding/binary"
	"math"
	"slices"
	"testing"

	"gantry/api"
	"gantry/timeidx"
)

// sheet is an index as the chapter words it, in other ways than the program's: it is walked from its first entry on, and each list is made anew. A sheet that is gone is a nil index.
type sheet struct {
	gone    bool
	entries []api.Entry
}

// fault tells of a whole list what the first entry that can't stand there is refused with.
func fault(entries []api.Entry) api.Errno {
	for i, e := range entries {
		switch {
		case e.At < 0:
			return api.ErrRange
		case i > 0 && !(e.At > entries[i-1].At && e.Key >= entries[i-1].Key):
			return api.ErrOrder
		}
	}
	return api.OK
}

func (m *sheet) entry(i int) (api.Entry, bool) {
	for k, e := range m.entries {
		if k == i {
			return e, true
		}
	}
	return api.Entry{}, false
}

func (m *sheet) push(e api.Entry) api.Errno {
	then := append(slices.Clone(m.entries), e)
	if wrong := fault(then); wrong != api.OK {
		return wrong
	}
	if m.gone {
		return api.ErrNone
	}
	m.entries = then
	return api.OK
}

func (m *sheet) find(t int64) (api.Entry, bool) {
	var found api.Entry
	ok := false
	for _, e := range m.entries {
		if e.Key < t {
			found, ok = e, true
		}
	}
	return found, ok
}

func (m *sheet) cut(n int) api.Errno {
	if n < 0 || n > len(m.entries) {
		return api.ErrRange
	}
	m.entries = slices.Clone(m.entries[:n])
	return api.OK
}

func (m *sheet) clone() *sheet { return &sheet{m.gone, slices.Clone(m.entries)} }

func chapterBytes(entries []api.Entry) string {
	var out []byte
	for _, e := range entries {
		out = binary.BigEndian.AppendUint64(out, uint64(e.Key))
		out = binary.BigEndian.AppendUint64(out, uint64(e.At))
	}
	return string(out)
}

// mostProbes answers 2 and the whole part of the logarithm of n to the base 2.
func mostProbes(n int) int {
	most := 2
	for n > 1 {
		n /= 2
		most++
	}
	return most
}

// mustBe holds all that an index tells against what its sheet tells.
func mustBe(t *testing.T, x *timeidx.Index, m *sheet) {
	t.Helper()
	if x.Len() != len(m.entries) {
		t.Fatalf("P11.1: Len is %d, not %d", x.Len(), len(m.entries))
	}
	for i, want := range m.entries {
		if got, ok := x.Entry(i); got != want || !ok {
			t.Fatalf("P11.1: Entry(%d) is %v, %t, not %v", i, got, ok, want)
		}
	}
	for _, i := range numbers(x.Len()) {
		mustEntry(t, x, m, i)
	}
	last, ok := x.Last()
	if want, has := m.entry(len(m.entries) - 1); last != want || ok != has {
		t.Fatalf("P11.1: Last is %v, %t, not %v, %t", last, ok, want, has)
	}
	if got := x.Bytes(); got != chapterBytes(m.entries) {
		t.Fatalf("P11.5: Bytes are %x, not those of %v", got, m.entries)
	}
}

func mustEntry(t *testing.T, x *timeidx.Index, m *sheet, i int) {
	t.Helper()
	got, ok := x.Entry(i)
	if want, has := m.entry(i); got != want || ok != has {
		t.Fatalf("P11.1: Entry(%d) is %v, %t, not %v, %t", i, got, ok, want, has)
	}
}

// numbers answers those at the edges of a list of n elements, and some far off.
func numbers(n int) []int {
	return []int{math.MinInt, math.MinInt + 1, -1 << 32, -n, -1, 0, 1, n - 1, n, n + 1, 1 << 32, math.MaxInt - 1, math.MaxInt}
}

// pair is an index and its sheet, which are asked the same.
type pair struct {
	x *timeidx.Index
	m *sheet
}

func newPair(t *testing.T, entries ...api.Entry) pair {
	t.Helper()
	p := pair{timeidx.New(), &sheet{}}
	for _, e := range entries {
		p.push(t, e)
	}
	if p.x.Len() != len(entries) {
		t.Fatalf("not all of %v are taken", entries)
	}
	return p
}

func (p pair) push(t *testing.T, e api.Entry) {
	t.Helper()
	ahead := slices.Clone(p.m.entries)
	want := p.m.push(e)
	if got := p.x.Append(e); got != want {
		t.Fatalf("P11.2: Append(%v) behind %v answers %d, not %d", e, ahead, got, want)
	}
}

func (p pair) cut(t *testing.T, n int) {
	t.Helper()
	length := len(p.m.entries)
	want := p.m.cut(n)
	if got := p.x.Cut(n); got != want {
		t.Fatalf("P11.3: Cut(%d) of %d entries answers %d, not %d", n, length, got, want)
	}
}

// find asks twice: to ask changes nothing, and the same is answered.
func (p pair) find(t *testing.T, time int64) {
	t.Helper()
	e, probes, ok := p.x.Find(time)
	if want, has := p.m.find(time); e != want || ok != has {
		t.Fatalf("P11.4: Find(%d) in %v answers %v, %t, not %v, %t", time, p.m.entries, e, ok, want, has)
	}
	n := len(p.m.entries)
	if n == 0 && probes != 0 || n > 0 && (probes < 1 || probes > mostProbes(n)) {
		t.Fatalf("P11.4: Find(%d) looks at %d of %d entries, at most %d are allowed", time, probes, n, mostProbes(n))
	}
	if again, probesAgain, okAgain := p.x.Find(time); again != e || okAgain != ok || probesAgain != probes {
		t.Fatalf("R2: Find(%d) answers %v, %d, %t and then %v, %d, %t", time, e, probes, ok, again, probesAgain, okAgain)
	}
}

func (p pair) clone() pair { return pair{p.x.Clone(), p.m.clone()} }
