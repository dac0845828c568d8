package batch_test

import (
	"math"
	"strings"
	"testing"

	"gantry/api"
	"gantry/batch"
)

func expectHead(t *testing.T, name, src string, want api.Head, e api.Errno) {
	t.Helper()
	if got, f := batch.Peek(src); got != want || f != e {
		t.Errorf("P6.2: %s: Peek: %+v, %d, want %+v, %d", name, got, f, want, e)
	}
}

// expectPeek holds Peek against the chapter's words, and these against the error.
func expectPeek(t *testing.T, name, src string, e api.Errno) {
	t.Helper()
	want, f := peeking(src)
	if f != e {
		t.Errorf("%s: the chapter's words make %d, not %d", name, f, e)
	}
	expectHead(t, name, src, want, e)
}

func TestPeekExamples(t *testing.T) {
	s := encoded(t, one())
	head := api.Head{Base: 3, Length: 58, Count: 1, First: 5, Greatest: 5, Producer: -1, Seq: -1}
	expectHead(t, "the frame", s, head, api.OK)
	expectHead(t, "more behind it", s+"more", head, api.OK)
	expectHead(t, "the head alone", s[:51], head, api.OK)
	expectHead(t, "a byte too few", s[:50], api.Head{}, api.ErrShort)
	expectHead(t, "nothing", "", api.Head{}, api.ErrShort)
	p := encoded(t, three(true))
	expectHead(t, "a packed one", p, api.Head{Base: 1000, Length: len(p), Packed: true, Count: 3, First: 10, Greatest: 20, Producer: 7, Seq: 2}, api.OK)
}

func TestPeekShort(t *testing.T) {
	right, wrong := encoded(t, three(false)), strings.Repeat("\xff", 51)
	for n := range 51 {
		expectPeek(t, "cut", right[:n], api.ErrShort)
		expectPeek(t, "cut and wrong", wrong[:n], api.ErrShort)
	}
	expectPeek(t, "wrong", wrong, api.ErrBatch)
}

// TestPeekPassesOver sees to it that neither the sum nor what is stored is looked at.
func TestPeekPassesOver(t *testing.T) {
	s := encoded(t, three(false))
	for i := 13; i < 17; i++ {
		expectPeek(t, "the sum", s[:i]+string([]byte{^s[i]})+s[i+1:], api.OK)
	}
	expectPeek(t, "what is stored", s[:51]+strings.Repeat("\xff", len(s)-51), api.OK)
	expectPeek(t, "nothing stored", s[:51], api.OK)
}

func TestPeekFields(t *testing.T) {
	const most = api.MostOffset
	for _, c := range []struct {
		name string
		turn func(*pieces)
		e    api.Errno
	}{
		{"nothing", func(p *pieces) {}, api.OK},
		{"mark 0", func(p *pieces) { p.mark = 0 }, api.ErrBatch},
		{"mark 70", func(p *pieces) { p.mark = 70 }, api.ErrBatch},
		{"mark 72", func(p *pieces) { p.mark = 72 }, api.ErrBatch},
		{"mark 199", func(p *pieces) { p.mark = 199 }, api.ErrBatch},
		{"flags 1", func(p *pieces) { p.flags = 1 }, api.OK},
		{"flags 2", func(p *pieces) { p.flags = 2 }, api.ErrBatch},
		{"flags 3", func(p *pieces) { p.flags = 3 }, api.ErrBatch},
		{"flags 256", func(p *pieces) { p.flags = 256 }, api.ErrBatch},
		{"flags 257", func(p *pieces) { p.flags = 257 }, api.ErrBatch},
		{"flags 65535", func(p *pieces) { p.flags = 65535 }, api.ErrBatch},
		{"count 0", func(p *pieces) { p.count = 0 }, api.ErrBatch},
		{"count 1", func(p *pieces) { p.count = 1 }, api.OK},
		{"count 65536", func(p *pieces) { p.count = 65536 }, api.OK},
		{"count 65537", func(p *pieces) { p.count = 65537 }, api.ErrBatch},
		{"the greatest count", func(p *pieces) { p.count = math.MaxUint32 }, api.ErrBatch},
		{"count 2^31", func(p *pieces) { p.count = 1 << 31 }, api.ErrBatch},
		{"base 0", func(p *pieces) { p.base = 0 }, api.OK},
		{"base -1", func(p *pieces) { p.base = -1 }, api.ErrBatch},
		{"the least base", func(p *pieces) { p.base = math.MinInt64 }, api.ErrBatch},
		{"the greatest base", func(p *pieces) { p.base = math.MaxInt64 }, api.ErrBatch},
		{"a base of which the last offset wraps", func(p *pieces) { p.base, p.count = math.MaxInt64, 65536 }, api.ErrBatch},
		{"the last offset", func(p *pieces) { p.base = most - 3 }, api.OK},
		{"beyond the last offset", func(p *pieces) { p.base = most - 2 }, api.ErrBatch},
		{"the last base", func(p *pieces) { p.base, p.count = most-1, 1 }, api.OK},
		{"beyond the last base", func(p *pieces) { p.base, p.count = most, 1 }, api.ErrBatch},
		{"the last offset of 65536", func(p *pieces) { p.base, p.count = most-65536, 65536 }, api.OK},
		{"beyond the last offset of 65536", func(p *pieces) { p.base, p.count = most-65535, 65536 }, api.ErrBatch},
		{"times the same", func(p *pieces) { p.first = p.greatest }, api.OK},
		{"first above greatest", func(p *pieces) { p.first = p.greatest + 1 }, api.ErrBatch},
		{"times far apart", func(p *pieces) { p.first, p.greatest = math.MinInt64, math.MaxInt64 }, api.OK},
		{"times far apart, turned", func(p *pieces) { p.first, p.greatest = math.MaxInt64, math.MinInt64 }, api.ErrBatch},
		{"times below 0", func(p *pieces) { p.first, p.greatest = -2, -1 }, api.OK},
		{"times below 0, turned", func(p *pieces) { p.first, p.greatest = -1, -2 }, api.ErrBatch},
		{"no producer", func(p *pieces) { p.producer, p.seq = -1, -1 }, api.OK},
		{"no producer and a sequence", func(p *pieces) { p.producer, p.seq = -1, 0 }, api.ErrBatch},
		{"no producer and a lesser sequence", func(p *pieces) { p.producer, p.seq = -1, -2 }, api.ErrBatch},
		{"producer -2", func(p *pieces) { p.producer, p.seq = -2, -1 }, api.ErrBatch},
		{"producer -2 and a sequence", func(p *pieces) { p.producer = -2 }, api.ErrBatch},
		{"the least producer", func(p *pieces) { p.producer = math.MinInt64 }, api.ErrBatch},
		{"the greatest producer", func(p *pieces) { p.producer, p.seq = math.MaxInt64, math.MaxInt32 }, api.OK},
		{"producer 0", func(p *pieces) { p.producer, p.seq = 0, 0 }, api.OK},
		{"producer 0 and no sequence", func(p *pieces) { p.producer, p.seq = 0, -1 }, api.ErrBatch},
		{"producer 0 and the least sequence", func(p *pieces) { p.producer, p.seq = 0, math.MinInt32 }, api.ErrBatch},
		{"length 0", func(p *pieces) { p.length = 0 }, api.ErrBatch},
		{"57 bytes", func(p *pieces) { p.length = 45 }, api.ErrBatch},
		{"58 bytes", func(p *pieces) { p.length = 46 }, api.OK},
		{"the most bytes", func(p *pieces) { p.length = api.MostFrame - 12 }, api.OK},
		{"more bytes", func(p *pieces) { p.length = api.MostFrame - 11 }, api.ErrBatch},
		{"a length below 0, if it were signed", func(p *pieces) { p.length = 1 << 31 }, api.ErrBatch},
		{"a length that wraps to 0", func(p *pieces) { p.length = math.MaxUint32 - 11 }, api.ErrBatch},
		{"the greatest length", func(p *pieces) { p.length = math.MaxUint32 }, api.ErrBatch},
	} {
		p := piecesOf(three(false), "what is stored")
		c.turn(&p)
		expectPeek(t, c.name, p.frame(), c.e)
		expectPeek(t, c.name+", the head alone", p.frame()[:51], c.e)
	}
}

// TestPeekBytes gives every byte of a head every value.
func TestPeekBytes(t *testing.T) {
	for _, b := range []api.Batch{one(), three(true)} {
		head := []byte(encoded(t, b)[:51])
		for i, was := range head {
			for v := range 256 {
				head[i] = byte(v)
				want, e := peeking(string(head))
				expectHead(t, "a byte", string(head), want, e)
			}
			head[i] = was
		}
	}
}

func TestPeekMany(t *testing.T) {
	count := map[api.Errno]int{}
	for seed := range uint64(20000) {
		d := newDice(seed)
		pick := func(v ...int64) int64 { return v[d.IntN(len(v))] }
		p := pieces{
			base:     pick(-1, 0, 5, 1<<62-2, 1<<62-1),
			length:   uint32(pick(45, 46, 300, 1<<24-12, 1<<24-11)),
			mark:     byte(pick(71, 71, 71, 70)),
			flags:    uint16(pick(0, 0, 1, 1, 2)),
			count:    uint32(pick(0, 1, 2, 65536, 65537)),
			first:    pick(-1, 0, 1),
			greatest: pick(0, 1, math.MaxInt64),
			producer: pick(-2, -1, -1, 0, 1, 1),
			seq:      int32(pick(-2, -1, -1, 0, 1)),
		}
		want, e := peeking(p.frame())
		expectHead(t, "dice", p.frame(), want, e)
		count[e]++
	}
	if count[api.OK] < 200 || count[api.ErrBatch] < 200 {
		t.Errorf("the dice don't fall as they should: %v", count)
	}
}

func TestBehind(t *testing.T) {
	for _, c := range []struct {
		base  int64
		count int
		want  int64
	}{
		{3, 1, 4},
		{0, 1, 1},
		{0, 65536, 65536},
		{1000, 3, 1003},
		{api.MostOffset - 1, 1, api.MostOffset},
		{api.MostOffset - 65536, 65536, api.MostOffset},
	} {
		p := piecesOf(one(), "")
		p.base, p.count, p.length = c.base, uint32(c.count), 46
		h, e := batch.Peek(p.frame())
		if got := batch.Behind(h); e != api.OK || got != c.want {
			t.Errorf("P6.7: behind %d records from %d on: %d, want %d (%d)", c.count, c.base, got, c.want, e)
		}
	}
	for _, h := range []api.Head{{}, {Base: math.MaxInt64, Count: math.MaxInt}, {Base: math.MinInt64, Count: math.MinInt}} {
		if batch.Behind(h) != batch.Behind(h) {
			t.Error("P6.7: two answers of one head")
		}
	}
}
