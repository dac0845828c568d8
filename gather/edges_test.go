package gather_test

import (
	"math"
	"slices"
	"strings"
	"testing"

	"gantry/api"
	"gantry/gather"
	"gantry/record"
)

// wide answers bounds that let in as much as can be.
func wide() gather.Bounds {
	return gather.Bounds{Records: math.MaxInt, Plain: math.MaxInt, Frame: math.MaxInt, Span: math.MaxInt64, Producer: -1, Seq: -1}
}

func TestSenders(t *testing.T) {
	for _, c := range []struct {
		producer int64
		seq      int32
		e        api.Errno
	}{
		{-1, -1, api.OK},
		{0, 0, api.OK},
		{0, math.MaxInt32, api.OK},
		{math.MaxInt64, 0, api.OK},
		{math.MaxInt64, math.MaxInt32, api.OK},
		{-2, -1, api.ErrRange},
		{-2, 0, api.ErrRange},
		{-2, -2, api.ErrRange},
		{math.MinInt64, -1, api.ErrRange},
		{math.MinInt64, 5, api.ErrRange},
		{-1 << 32, -1, api.ErrRange},
		{-1, 0, api.ErrRange},
		{-1, -2, api.ErrRange},
		{-1, math.MinInt32, api.ErrRange},
		{-1, math.MaxInt32, api.ErrRange},
		{0, -1, api.ErrRange},
		{0, math.MinInt32, api.ErrRange},
		{7, -2, api.ErrRange},
		{math.MaxInt64, -1, api.ErrRange},
	} {
		b := wide()
		b.Producer, b.Seq = c.producer, c.seq
		g, e := gather.New(b)
		if e != c.e || (g == nil) != (e != api.OK) {
			t.Errorf("P19.1: New for %d, %d answers %d, not %d", c.producer, c.seq, e, c.e)
		}
		if e == api.OK {
			newPair(t, b)
			continue
		}
		mustRefuse(t, b, at(1, 2), 0, api.ErrRange)
		mustRefuse(t, b, nil, 0, api.ErrRange)
	}
}

func TestRecords(t *testing.T) {
	for _, c := range []struct {
		records int
		sizes   []int
	}{
		{math.MinInt, []int{1, 1, 1, 1, 1}},
		{-1, []int{1, 1, 1, 1, 1}},
		{0, []int{1, 1, 1, 1, 1}},
		{1, []int{1, 1, 1, 1, 1}},
		{2, []int{2, 2, 1}},
		{3, []int{3, 2}},
		{4, []int{4, 1}},
		{5, []int{5}},
		{6, []int{5}},
		{65537, []int{5}},
		{math.MaxInt, []int{5}},
	} {
		b := wide()
		b.Records = c.records
		mustSplit(t, b, at(1, 2, 3, 4, 5), c.sizes, nil)
	}
}

// TestMostRecords fills batches with as many records as any may have, and one less or more.
func TestMostRecords(t *testing.T) {
	many := make([]api.Record, 2*65536+3)
	for _, c := range []struct {
		records int
		sizes   []int
	}{
		{65535, []int{65535, 65535, 5}},
		{65536, []int{65536, 65536, 3}},
		{65537, []int{65536, 65536, 3}},
		{math.MaxInt, []int{65536, 65536, 3}},
	} {
		b := wide()
		b.Records, b.Packed, b.Producer, b.Seq = c.records, c.records > 65535, 3, math.MaxInt32-65536
		seqs := []int32{math.MaxInt32 - 65536, math.MaxInt32, 65535}
		if c.records == 65535 {
			seqs[1], seqs[2] = math.MaxInt32-1, 65533
		}
		mustSplit(t, b, many, c.sizes, seqs)
	}
	mustTake(t, wide(), many[:65537])
}

func TestSpan(t *testing.T) {
	const least, most = math.MinInt64, math.MaxInt64
	for _, c := range []struct {
		span  int64
		times []int64
		sizes []int
	}{
		{10, []int64{0, 10, -10, 10}, []int{4}},
		{10, []int64{0, 11}, []int{1, 1}},
		{10, []int64{0, -11}, []int{1, 1}},
		{10, []int64{0, 10, 20}, []int{2, 1}},
		{10, []int64{5, -5, 15, 16, 6}, []int{3, 2}},
		{0, []int64{3, 3, 4, 4, 3}, []int{2, 2, 1}},
		{-1, []int64{3, 3, 4, 2}, []int{2, 1, 1}},
		{least, []int64{3, 3, 4, 2}, []int{2, 1, 1}},
		{most, []int64{0, most, least + 1, 1}, []int{4}},
		{most, []int64{0, least}, []int{1, 1}},
		{most, []int64{-1, least, most - 1, most}, []int{3, 1}},
		{most, []int64{least, -1, 0}, []int{2, 1}},
		{most, []int64{most, 0, -1}, []int{2, 1}},
		{most, []int64{least, most}, []int{1, 1}},
		{most, []int64{most, least, most}, []int{1, 1, 1}},
		{most - 1, []int64{0, most - 1, least + 2, most}, []int{3, 1}},
		{most - 1, []int64{0, least + 1}, []int{1, 1}},
		{10, []int64{most, most - 10, least}, []int{2, 1}},
		{10, []int64{least, least + 10, most}, []int{2, 1}},
		{10, []int64{most - 5, most, least + 4}, []int{2, 1}},
		{0, []int64{least, most, least}, []int{1, 1, 1}},
		{0, []int64{least, least, most, most}, []int{2, 2}},
	} {
		b := wide()
		b.Span = c.span
		mustSplit(t, b, at(c.times...), c.sizes, nil)
		mustTake(t, b, at(c.times...))
	}
}

func TestPlain(t *testing.T) {
	for _, c := range []struct {
		plain int
		sizes []int
	}{
		{math.MinInt, []int{1, 1, 1, 1}},
		{-1, []int{1, 1, 1, 1}},
		{0, []int{1, 1, 1, 1}},
		{6, []int{1, 1, 1, 1}},
		{7, []int{1, 1, 1, 1}},
		{13, []int{1, 1, 1, 1}},
		{14, []int{2, 2}},
		{20, []int{2, 2}},
		{21, []int{3, 1}},
		{27, []int{3, 1}},
		{28, []int{4}},
		{math.MaxInt, []int{4}},
	} {
		for _, packed := range []bool{false, true} {
			b := wide()
			b.Plain, b.Packed = c.plain, packed
			mustSplit(t, b, at(1, 2, 3, 4), c.sizes, nil)
			mustTake(t, b, at(1, 2, 3, 4))
		}
	}
	for size := 8; size < 400; size++ {
		if size == 129 {
			continue
		}
		b := wide()
		b.Plain = size
		mustSplit(t, b, []api.Record{sized(size)}, []int{1}, nil)
		b.Plain--
		mustRefuse(t, b, []api.Record{{}, sized(size)}, 1, api.ErrBig)
	}
}

// TestFrame goes through bodies about the places where the bound of a packed form rises by two.
func TestFrame(t *testing.T) {
	for size := 8; size < 400; size++ {
		if size == 129 {
			continue
		}
		for _, packed := range []bool{false, true} {
			b := wide()
			b.Frame, b.Packed = roomOf(size, packed), packed
			mustTake(t, b, []api.Record{sized(size)})
			b.Frame--
			mustRefuse(t, b, []api.Record{sized(size)}, 0, api.ErrBig)
			b.Frame = roomOf(size+7, packed)
			mustSplit(t, b, []api.Record{sized(size), {}}, []int{2}, nil)
			mustSplit(t, b, []api.Record{{}, sized(size)}, []int{2}, nil)
			b.Frame--
			mustSplit(t, b, []api.Record{sized(size), {}}, []int{1, 1}, nil)
			mustTake(t, b, []api.Record{{}, sized(size)})
		}
	}
	for _, frame := range []int{math.MinInt, -1, 0, 57, 58, 64} {
		b := wide()
		b.Frame = frame
		mustSplit(t, b, at(1, 2), []int{1, 1}, nil)
		mustTake(t, b, at(1, 2))
		b.Packed = true
		if frame == 64 {
			mustSplit(t, b, at(1, 2), []int{1, 1}, nil)
			continue
		}
		mustRefuse(t, b, at(1, 2), 0, api.ErrBig)
	}
}

// greatest answers a record whose body, by itself, has just size bytes, if these are near MostFrame.
func greatest(size int) api.Record {
	return api.Record{Value: some(strings.Repeat("v", size-13))}
}

func TestMostFrame(t *testing.T) {
	// Of a packed frame 55 bytes leave 16777161 of MostFrame: that is 130055 times 129, and 66. Each 128 bytes of a body take 129, and the 65 that are left over take 66.
	for _, c := range []struct {
		packed bool
		most   int
	}{{false, 16777216 - 51}, {true, 128*130055 + 65}} {
		b := wide()
		b.Packed = c.packed
		if roomOf(c.most, c.packed) != 16777216 || roomOf(c.most+1, c.packed) != 16777217 {
			t.Fatalf("the room of %d is %d", c.most, roomOf(c.most, c.packed))
		}
		mustSplit(t, b, []api.Record{greatest(c.most), {}}, []int{1, 1}, nil)
		mustSplit(t, b, []api.Record{{}, greatest(c.most)}, []int{1, 1}, nil)
		mustSplit(t, b, []api.Record{{}, greatest(c.most - 7)}, []int{2}, nil)
		mustSplit(t, b, []api.Record{{}, greatest(c.most - 6)}, []int{1, 1}, nil)
		mustRefuse(t, b, []api.Record{{}, {}, greatest(c.most + 1)}, 2, api.ErrBig)
		mustTake(t, b, []api.Record{{}, greatest(c.most - 7), greatest(c.most)})
		b.Plain = c.most - 1
		mustRefuse(t, b, []api.Record{greatest(c.most)}, 0, api.ErrBig)
		b.Plain, b.Frame = c.most, 16777215
		mustRefuse(t, b, []api.Record{greatest(c.most)}, 0, api.ErrBig)
	}
}

// TestFirstJoins sees to it that a difference of times, or a number, that takes more bytes among those that wait than by itself is reckoned so.
func TestFirstJoins(t *testing.T) {
	b := wide()
	b.Plain = 14
	mustSplit(t, b, at(0, 63), []int{2}, nil)
	mustSplit(t, b, at(0, -64), []int{2}, nil)
	mustSplit(t, b, at(0, 64), []int{1, 1}, nil)
	mustSplit(t, b, at(0, -65), []int{1, 1}, nil)
	mustSplit(t, b, at(1<<40, 1<<40+63), []int{2}, nil)
	b.Plain = 15
	mustSplit(t, b, at(0, 64), []int{2}, nil)
	// The times differ by less from the one ahead, and by more from the first.
	b.Plain = 21
	mustSplit(t, b, at(0, 60, 64), []int{2, 1}, nil)
	// From the number 128 on a record has a byte more.
	for records, plain := range map[int]int{128: 128 * 7, 129: 128*7 + 8, 130: 128*7 + 16} {
		b.Plain = plain
		mustSplit(t, b, make([]api.Record, 140), []int{records, 140 - records}, nil)
		b.Plain--
		mustSplit(t, b, make([]api.Record, 140), []int{records - 1, 141 - records}, nil)
	}
}

func TestRefused(t *testing.T) {
	text := strings.Repeat("t", api.MostPlain)
	headers := func(n int) api.Record { return api.Record{Time: 3, Headers: make([]api.Header, n)} }
	both := headers(1025)
	both.Key = some(text)
	for _, c := range []struct {
		name string
		r    api.Record
		e    api.Errno
	}{
		{"1024 headers", headers(1024), api.OK},
		{"1025 headers", headers(1025), api.ErrMost},
		{"many headers", headers(70000), api.ErrMost},
		{"too great for a record", api.Record{Value: some(text)}, api.ErrBig},
		{"too great, and 1025 headers", both, api.ErrMost},
		{"null of many bytes", api.Record{Key: api.Opt{Data: text}}, api.OK},
		{"the least time", api.Record{Time: math.MinInt64}, api.OK},
		{"the greatest time", api.Record{Time: math.MaxInt64}, api.OK},
	} {
		p := newPair(t, wide())
		for range 2 {
			if _, e := p.add(t, c.r); e != c.e {
				t.Errorf("P19.2: %s: %d, not %d", c.name, e, c.e)
			}
			p.add(t, api.Record{Time: 1})
		}
		p.flush(t)
	}
	small := wide()
	small.Plain = 7
	mustRefuse(t, small, []api.Record{headers(1025)}, 0, api.ErrMost)
	mustRefuse(t, small, []api.Record{headers(1024)}, 0, api.ErrBig)
}

// TestRefusedChangesNothing adds what is refused between records that wait, and hands out the same batches as without it.
func TestRefusedChangesNothing(t *testing.T) {
	b := gather.Bounds{Records: 3, Plain: 30, Frame: 90, Span: 100, Producer: 1, Seq: math.MaxInt32 - 1}
	spared, asked := newPair(t, b), newPair(t, b)
	for i := range int64(20) {
		for _, wrong := range []api.Record{sized(31), {Headers: make([]api.Header, 1025)}, {Time: 1 << 40, Key: some(strings.Repeat("k", 25))}} {
			if _, e := asked.add(t, wrong); e == api.OK {
				t.Fatal("P19.2: a wrong one is taken")
			}
		}
		r := api.Record{Time: 30 * i, Key: some(strings.Repeat("k", int(i%7)))}
		n, e := asked.add(t, r)
		if want, _ := spared.add(t, r); n != want || e != api.OK {
			t.Errorf("P19.2: %d are handed out, %d, not %d", n, e, want)
		}
	}
	asked.flush(t)
}

func TestSequences(t *testing.T) {
	for _, c := range []struct {
		seq   int32
		sizes []int
		want  []int32
	}{
		{0, []int{1, 2, 3}, []int32{0, 1, 3, 6}},
		{math.MaxInt32, []int{1, 1}, []int32{math.MaxInt32, 0, 1}},
		{math.MaxInt32, []int{3, 1}, []int32{math.MaxInt32, 2, 3}},
		{math.MaxInt32 - 2, []int{3, 1}, []int32{math.MaxInt32 - 2, 0, 1}},
		{math.MaxInt32 - 3, []int{3, 1}, []int32{math.MaxInt32 - 3, math.MaxInt32, 0}},
	} {
		for _, producer := range []int64{0, 9, math.MaxInt64} {
			b := wide()
			b.Producer, b.Seq = producer, c.seq
			p := newPair(t, b)
			for i, size := range c.sizes {
				for range size {
					p.add(t, api.Record{})
				}
				if p.g.Seq() != c.want[i] {
					t.Errorf("P19.4: Seq is %d, not %d", p.g.Seq(), c.want[i])
				}
				p.flush(t)
			}
			if last := c.want[len(c.sizes)]; p.g.Seq() != last {
				t.Errorf("P19.4: Seq is %d, not %d", p.g.Seq(), last)
			}
		}
	}
}

func TestFlushOfNone(t *testing.T) {
	p := newPair(t, wide())
	p.flush(t)
	p.flush(t)
	p.add(t, api.Record{Time: 1})
	p.flush(t)
	if b, ok := p.g.Flush(); ok || !equal(b, api.Batch{}) {
		t.Errorf("P19.3: Flush of none answers %+v, %t", b, ok)
	}
}

func TestSplitOfFew(t *testing.T) {
	mustSplit(t, wide(), nil, nil, nil)
	mustSplit(t, wide(), []api.Record{}, nil, nil)
	l := mustSplit(t, wide(), at(5), []int{1}, []int32{-1})
	if !equal(l[0], api.Batch{Producer: -1, Seq: -1, Records: at(5)}) {
		t.Errorf("P19.4: %+v", l[0])
	}
	big := api.Record{Headers: make([]api.Header, 1025)}
	for n := range 6 {
		list := slices.Insert(at(1, 2, 3, 4, 5), n, big)
		mustRefuse(t, wide(), list, n, api.ErrMost)
		narrow := wide()
		narrow.Records = 2
		mustRefuse(t, narrow, append(list, big), n, api.ErrMost)
	}
}

// TestNulls sees to it that the records which are handed out are as layer 5's Copy.
func TestNulls(t *testing.T) {
	r := api.Record{Time: 1, Key: api.Opt{Data: "k"}, Value: some(""), Headers: []api.Header{{Key: "h", Value: api.Opt{Data: "v"}}, {Value: some("w")}}}
	l := mustSplit(t, wide(), []api.Record{r, r}, []int{2}, nil)
	for _, got := range l[0].Records {
		if got.Key != (api.Opt{}) || got.Value != some("") || got.Headers[0] != (api.Header{Key: "h"}) || got.Headers[1] != r.Headers[1] || !record.Same(got, r) {
			t.Errorf("P19.4: %+v", got)
		}
	}
}
