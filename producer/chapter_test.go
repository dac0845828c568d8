package producer_test

import (
	"math"
	"slices"
	"testing"

	"gantry/api"
	"gantry/producer"
)

// sheet is a book as the chapter words it, in other ways than the program's: one list of all batches that are kept, whoever sent them, in the order in which they were noted. A sheet that is gone is a nil book.
type sheet struct {
	gone bool
	list []api.Head
}

func goodHead(h api.Head) bool {
	sent := h.Producer > -1 && h.Seq > -1
	unsent := h.Producer == -1 && h.Seq == -1
	return (sent || unsent) && !(h.Count < 1 || h.Count > 65536) && !(h.Base < 0 || h.Base > 4611686018427387904)
}

func (m *sheet) batches(p int64) []api.Head {
	var out []api.Head
	for _, h := range m.list {
		if h.Producer == p {
			out = append(out, h)
		}
	}
	return out
}

func (m *sheet) producers() []int64 {
	var out []int64
	for _, h := range m.list {
		out = append(out, h.Producer)
	}
	slices.Sort(out)
	return slices.Compact(out)
}

func (m *sheet) next(p int64) (int32, bool) {
	of := m.batches(p)
	if len(of) == 0 {
		return 0, false
	}
	last := of[len(of)-1]
	n := int64(last.Seq) + int64(last.Count)
	for n > math.MaxInt32 {
		n -= math.MaxInt32 + 1
	}
	return int32(n), true
}

func (m *sheet) check(p int64, seq int32, count int) (int64, api.Errno) {
	if !goodHead(api.Head{Producer: p, Seq: seq, Count: count}) {
		return 0, api.ErrRange
	}
	next, known := m.next(p)
	if p == -1 || !known || seq == next {
		return 0, api.OK
	}
	base := int64(-1)
	for _, h := range m.batches(p) {
		if h.Seq == seq && h.Count == count {
			base = h.Base
		}
	}
	if base >= 0 {
		return base, api.ErrDouble
	}
	// The low 31 bits of a difference that wraps are the difference modulo 2^31, and the highest of them tells its half.
	if uint32(seq-next)&(1<<30) == 0 {
		return 0, api.ErrGap
	}
	return 0, api.ErrStale
}

func (m *sheet) note(h api.Head) api.Errno {
	if !goodHead(h) {
		return api.ErrRange
	}
	if m.gone {
		return api.ErrNone
	}
	if h.Producer == -1 {
		return api.OK
	}
	m.list = append(slices.Clone(m.list), api.Head{Base: h.Base, Count: h.Count, Producer: h.Producer, Seq: h.Seq})
	if len(m.batches(h.Producer)) > 5 {
		first := slices.IndexFunc(m.list, func(x api.Head) bool { return x.Producer == h.Producer })
		m.list = slices.Delete(m.list, first, first+1)
	}
	return api.OK
}

func (m *sheet) forget(below int64) int {
	ahead := len(m.producers())
	var left []api.Head
	for _, h := range m.list {
		if h.Base >= below {
			left = append(left, h)
		}
	}
	m.list = left
	return ahead - len(m.producers())
}

func (m *sheet) clone() *sheet { return &sheet{m.gone, slices.Clone(m.list)} }

// mustBe holds all that a book tells without being asked for a batch against what its sheet tells.
func mustBe(t *testing.T, b *producer.Book, m *sheet) {
	t.Helper()
	known := m.producers()
	if b.Len() != len(known) {
		t.Fatalf("P14.1: Len is %d, not %d", b.Len(), len(known))
	}
	if got := b.Producers(); !slices.Equal(got, known) {
		t.Fatalf("P14.1: Producers are %v, not %v", got, known)
	}
	for _, p := range append(known, numbers()...) {
		if got := b.Batches(p); !slices.Equal(got, m.batches(p)) {
			t.Fatalf("P14.1: Batches(%d) are %+v, not %+v", p, got, m.batches(p))
		}
		next, ok := b.Next(p)
		if want, has := m.next(p); next != want || ok != has {
			t.Fatalf("P14.1: Next(%d) is %d, %t, not %d, %t", p, next, ok, want, has)
		}
	}
}

// numbers answers those at the edges of what a producer or a base offset may be, and beyond.
func numbers() []int64 {
	return []int64{math.MinInt64, math.MinInt64 + 1, -1 << 32, -2, -1, 0, 1, 7, math.MaxInt32, 1 << 32, 1<<62 - 1, 1 << 62, 1<<62 + 1, math.MaxInt64 - 1, math.MaxInt64}
}

// sequences answers those at the edges of the round and of its halves, and numbers that are none.
func sequences() []int32 {
	return []int32{math.MinInt32, math.MinInt32 + 1, -2, -1, 0, 1, 2, 65535, 65536, 65537, 1<<30 - 1, 1 << 30, 1<<30 + 1, math.MaxInt32 - 65536, math.MaxInt32 - 65535, math.MaxInt32 - 1, math.MaxInt32}
}

func counts() []int {
	return []int{math.MinInt, -1 << 32, -1, 0, 1, 2, 3, 65535, 65536, 65537, 1 << 31, 1 << 32, 1<<32 + 1, math.MaxInt}
}

// pair is a book and its sheet, which are asked the same.
type pair struct {
	b *producer.Book
	m *sheet
}

func newPair(t *testing.T, heads ...api.Head) pair {
	t.Helper()
	p := pair{producer.New(), &sheet{}}
	for _, h := range heads {
		p.note(t, h)
	}
	return p
}

func (p pair) note(t *testing.T, h api.Head) {
	t.Helper()
	want := p.m.note(h)
	if got := p.b.Note(h); got != want {
		t.Fatalf("P14.3: Note(%+v) answers %d, not %d", h, got, want)
	}
}

// check asks twice: to ask changes nothing, and the same is answered.
func (p pair) check(t *testing.T, producer int64, seq int32, count int) {
	t.Helper()
	want, wantErr := p.m.check(producer, seq, count)
	for range 2 {
		if base, e := p.b.Check(producer, seq, count); base != want || e != wantErr {
			t.Fatalf("P14.2: Check(%d, %d, %d) with %+v answers %d, %d, not %d, %d", producer, seq, count, p.m.batches(producer), base, e, want, wantErr)
		}
	}
}

func (p pair) forget(t *testing.T, below int64) {
	t.Helper()
	ahead := p.m.list
	want := p.m.forget(below)
	if got := p.b.Forget(below); got != want {
		t.Fatalf("P14.4: Forget(%d) of %+v answers %d, not %d", below, ahead, got, want)
	}
}

func (p pair) clone() pair { return pair{p.b.Clone(), p.m.clone()} }

// of answers a head as a batch of a producer has it.
func of(producer int64, seq int32, count int, base int64) api.Head {
	return api.Head{Producer: producer, Seq: seq, Count: count, Base: base}
}

// TestChapterExample runs what the chapter's examples say.
func TestChapterExample(t *testing.T) {
	b := producer.New()
	check := func(p int64, seq int32, count int, base int64, want api.Errno) {
		t.Helper()
		if got, e := b.Check(p, seq, count); got != base || e != want {
			t.Errorf("P14.2: Check(%d, %d, %d) answers %d, %d, not %d, %d", p, seq, count, got, e, base, want)
		}
	}
	next := func(want int32) {
		t.Helper()
		if n, ok := b.Next(7); n != want || !ok {
			t.Errorf("P14.1: Next(7) is %d, %t, not %d", n, ok, want)
		}
	}
	if e := b.Note(of(7, 0, 3, 10)); e != api.OK {
		t.Errorf("P14.3: %d", e)
	}
	next(3)
	check(7, 3, 1, 0, api.OK)
	check(7, 0, 3, 10, api.ErrDouble)
	check(7, 0, 2, 0, api.ErrStale)
	check(7, 4, 1, 0, api.ErrGap)
	check(8, 99, 1, 0, api.OK)
	check(-1, -1, 1, 0, api.OK)
	check(-1, 0, 1, 0, api.ErrRange)
	check(7, -1, 1, 0, api.ErrRange)
	check(7, 3, 0, 0, api.ErrRange)
	if e := b.Note(of(7, 2147483647, 2, 13)); e != api.OK {
		t.Errorf("P14.3: %d", e)
	}
	next(1)
	check(7, 2147483647, 2, 13, api.ErrDouble)
	check(7, 0, 3, 10, api.ErrDouble)
	if n := b.Forget(11); n != 0 || len(b.Batches(7)) != 1 {
		t.Errorf("P14.4: Forget(11) answers %d, and leaves %+v", n, b.Batches(7))
	}
	if n := b.Forget(14); n != 1 || b.Len() != 0 {
		t.Errorf("P14.4: Forget(14) answers %d, and leaves %d", n, b.Len())
	}
}
