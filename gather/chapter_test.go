package gather_test

import (
	"math/big"
	"slices"
	"strings"
	"testing"

	"gantry/api"
	"gantry/batch"
	"gantry/gather"
	"gantry/record"
)

// queue is a gatherer as the chapter words it, in other ways than the program's: the records that wait in a list, the number of those that were handed out, and the bounds as they were handed in. A queue that is gone is a nil gatherer.
type queue struct {
	gone bool
	b    gather.Bounds
	list []api.Record
	out  uint64
}

// zero is what the zero gatherer is like.
func zero() *queue { return &queue{b: gather.Bounds{Producer: -1, Seq: -1}} }

// clamp is n, or the nearer of the two that it must lie between.
func clamp(n, least, most int) int {
	l := []int{n, least, most}
	slices.Sort(l)
	return l[1]
}

// bodyOf answers the bytes of the records' body, or -1, if they have none.
func bodyOf(records []api.Record) int {
	s, e := record.Body(records)
	if e != api.OK {
		return -1
	}
	return len(s)
}

// roomOf is a batch's room by its words.
func roomOf(body int, packed bool) int {
	if !packed {
		return 51 + body
	}
	bound := body + body/128
	if body%128 != 0 {
		bound++
	}
	return 51 + 4 + bound
}

// joins is the word's second paragraph.
func (m *queue) joins(r api.Record, waiting []api.Record) bool {
	if len(waiting) > 0 {
		if len(waiting) >= clamp(m.b.Records, 1, 65536) {
			return false
		}
		less := new(big.Int).Sub(big.NewInt(r.Time), big.NewInt(waiting[0].Time))
		if less.CmpAbs(big.NewInt(max(m.b.Span, 0))) > 0 {
			return false
		}
	}
	body := bodyOf(append(slices.Clone(waiting), r))
	return body >= 0 && body <= clamp(m.b.Plain, 7, 16777216) && roomOf(body, m.b.Packed) <= clamp(m.b.Frame, 58, 16777216)
}

func (m *queue) add(r api.Record) (api.Batch, bool, api.Errno) {
	if m.gone {
		return api.Batch{}, false, api.ErrNone
	}
	if !m.joins(r, nil) {
		if _, e := record.Bytes(r, r.Time, 0); e != api.OK {
			return api.Batch{}, false, e
		}
		return api.Batch{}, false, api.ErrBig
	}
	if m.joins(r, m.list) {
		m.list = append(slices.Clone(m.list), record.Copy(r))
		return api.Batch{}, false, api.OK
	}
	b, ok := m.flush()
	m.list = []api.Record{record.Copy(r)}
	return b, ok, api.OK
}

func (m *queue) flush() (api.Batch, bool) {
	if len(m.list) == 0 {
		return api.Batch{}, false
	}
	b := api.Batch{Packed: m.b.Packed, Producer: m.b.Producer, Seq: m.seq(), Records: m.list}
	m.out += uint64(len(m.list))
	m.list = nil
	return b, true
}

func (m *queue) seq() int32 {
	switch {
	case m.gone:
		return 0
	case m.b.Producer == -1:
		return -1
	}
	return int32((uint64(m.b.Seq) + m.out) & 0x7fffffff)
}

func (m *queue) clone() *queue {
	twin := *m
	return &twin
}

// equal tells whether two batches are one in all: nulls without Data too.
func equal(a, b api.Batch) bool {
	same := func(a, b api.Record) bool {
		return a.Time == b.Time && a.Key == b.Key && a.Value == b.Value && slices.Equal(a.Headers, b.Headers)
	}
	return a.Base == b.Base && a.Packed == b.Packed && a.Producer == b.Producer && a.Seq == b.Seq && slices.EqualFunc(a.Records, b.Records, same)
}

// pair is a gatherer and its queue, which are handed the same.
type pair struct {
	g *gather.Gather
	m *queue
}

func newPair(t *testing.T, b gather.Bounds) pair {
	t.Helper()
	g, e := gather.New(b)
	if g == nil || e != api.OK {
		t.Fatalf("P19.1: New(%+v) answers %d", b, e)
	}
	p := pair{g, &queue{b: b}}
	p.mustBe(t)
	return p
}

// mustBe holds what a gatherer tells against its queue.
func (p pair) mustBe(t *testing.T) {
	t.Helper()
	n, bytes := p.g.Waiting()
	if want := max(bodyOf(p.m.list), 0); n != len(p.m.list) || bytes != want {
		t.Fatalf("P19.4: %d records wait, of %d bytes, not %d, of %d", n, bytes, len(p.m.list), want)
	}
	if seq := p.g.Seq(); seq != p.m.seq() {
		t.Fatalf("P19.4: Seq is %d, not %d", seq, p.m.seq())
	}
}

// add answers the error, and the number of records that were handed out.
func (p pair) add(t *testing.T, r api.Record) (int, api.Errno) {
	t.Helper()
	want, wantOK, wantErr := p.m.add(r)
	b, ok, e := p.g.Add(r)
	if !equal(b, want) || ok != wantOK || e != wantErr {
		t.Fatalf("P19.2: Add answers %d records, Seq %d, %t, %d, not %d, Seq %d, %t, %d", len(b.Records), b.Seq, ok, e, len(want.Records), want.Seq, wantOK, wantErr)
	}
	p.mustBe(t)
	return len(b.Records), e
}

func (p pair) flush(t *testing.T) int {
	t.Helper()
	want, wantOK := p.m.flush()
	b, ok := p.g.Flush()
	if !equal(b, want) || ok != wantOK {
		t.Fatalf("P19.3: Flush answers %d records, Seq %d, %t, not %d, Seq %d, %t", len(b.Records), b.Seq, ok, len(want.Records), want.Seq, wantOK)
	}
	p.mustBe(t)
	return len(b.Records)
}

func (p pair) clone() pair { return pair{p.g.Clone(), p.m.clone()} }

// at answers records with neither key nor value: 7 bytes each, if their times are near and they are few.
func at(times ...int64) []api.Record {
	var out []api.Record
	for _, t := range times {
		out = append(out, api.Record{Time: t})
	}
	return out
}

func some(s string) api.Opt { return api.Opt{Has: true, Data: s} }

// sized answers a record of so many bytes by itself, from 7 up to some 16000. None has 129: from 128 bytes on their number has two.
func sized(size int) api.Record {
	for key := range 2 {
		for value := max(size-14, 0); value <= size-7; value++ {
			r := api.Record{Key: some("k"[:key]), Value: some(strings.Repeat("v", value))}
			if s, e := record.Bytes(r, 0, 0); e == api.OK && len(s) == size {
				return r
			}
		}
	}
	panic("no record has that size")
}

// mustSplit holds batches against the numbers of records and the sequences that they should have.
func mustSplit(t *testing.T, b gather.Bounds, records []api.Record, sizes []int, seqs []int32) []api.Batch {
	t.Helper()
	l, n, e := gather.Split(b, records)
	if n != len(records) || e != api.OK {
		t.Fatalf("P19.5: Split(%+v) answers %d, %d", b, n, e)
	}
	var gotSizes []int
	var gotSeqs []int32
	for _, x := range l {
		gotSizes = append(gotSizes, len(x.Records))
		gotSeqs = append(gotSeqs, x.Seq)
	}
	if !slices.Equal(gotSizes, sizes) || seqs != nil && !slices.Equal(gotSeqs, seqs) {
		t.Errorf("P19.5: Split(%+v) answers batches of %v records with Seq %v, not %v, %v", b, gotSizes, gotSeqs, sizes, seqs)
	}
	return l
}

func mustRefuse(t *testing.T, b gather.Bounds, records []api.Record, n int, e api.Errno) {
	t.Helper()
	if l, gotN, got := gather.Split(b, records); len(l) != 0 || gotN != n || got != e {
		t.Errorf("P19.5: Split(%+v) answers %d batches, %d, %d, not none, %d, %d", b, len(l), gotN, got, n, e)
	}
}

// TestChapterExamples runs what the chapter's examples say.
func TestChapterExamples(t *testing.T) {
	b := gather.Bounds{Records: 3, Plain: 100, Frame: 1000, Span: 10, Producer: 7, Seq: 2147483646}
	times := at(0, 5, 10, 10, -1, 20)
	l := mustSplit(t, b, times, []int{3, 1, 1, 1}, []int32{2147483646, 1, 2, 3})
	for n, want := range []int64{0, 10, -1, 20} {
		if got := l[n].Records[0].Time; got != want {
			t.Errorf("P19.4: batch %d begins with %d, not %d", n, got, want)
		}
	}
	b.Plain, b.Span = 20, 1000
	mustSplit(t, b, times, []int{2, 2, 2}, []int32{2147483646, 0, 2})
	mustRefuse(t, b, []api.Record{{Value: some(strings.Repeat("x", 100))}}, 0, api.ErrBig)
	b.Plain, b.Frame = 100, 58
	mustSplit(t, b, at(0, 5, 10), []int{1, 1, 1}, []int32{2147483646, 2147483647, 0})
	b.Packed = true
	mustRefuse(t, b, at(0, 5, 10), 0, api.ErrBig)
	b.Frame = 63
	mustSplit(t, b, at(0, 5, 10), []int{1, 1, 1}, nil)
}

// TestExampleStepByStep runs the first example record by record.
func TestExampleStepByStep(t *testing.T) {
	p := newPair(t, gather.Bounds{Records: 3, Plain: 100, Frame: 1000, Span: 10, Producer: 7, Seq: 2147483646})
	for n, want := range []int{0, 0, 0, 3, 1, 1} {
		if out, e := p.add(t, at(0, 5, 10, 10, -1, 20)[n]); out != want || e != api.OK {
			t.Errorf("P19.2: record %d: %d are handed out, %d, not %d", n, out, e, want)
		}
	}
	if p.g.Seq() != 3 || p.flush(t) != 1 || p.g.Seq() != 4 || p.flush(t) != 0 {
		t.Errorf("P19.3: Seq is %d at the end", p.g.Seq())
	}
}

// mustTake holds P19.6 against what Split answers.
func mustTake(t *testing.T, b gather.Bounds, records []api.Record) []api.Batch {
	t.Helper()
	l, n, e := gather.Split(b, records)
	if n != len(records) || e != api.OK {
		t.Fatalf("P19.5: Split(%+v) answers %d, %d", b, n, e)
	}
	m := &queue{b: b}
	var all []api.Record
	for i, x := range l {
		f, e := batch.Encode(x)
		if e != api.OK {
			t.Fatalf("P19.6: Encode of batch %d under %+v answers %d", i, b, e)
		}
		if h, e := batch.Check(f, b.Frame, b.Plain); e != api.OK || h.Length != len(f) {
			t.Fatalf("P19.6: Check of batch %d under %+v answers %d", i, b, e)
		}
		if i > 0 && m.joins(x.Records[0], l[i-1].Records) {
			t.Fatalf("P19.6: the first of batch %d under %+v would have joined the one ahead", i, b)
		}
		all = append(all, x.Records...)
	}
	if !slices.EqualFunc(all, records, record.Same) {
		t.Fatalf("P19.6: the batches under %+v have other records", b)
	}
	return l
}
