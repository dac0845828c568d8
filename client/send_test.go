package client_test

import (
	"math"
	"slices"
	"strings"
	"testing"

	"gantry/api"
	"gantry/client"
)

// TestSequences: the first sequence as it counts, and how it goes on by the records that are sent.
func TestSequences(t *testing.T) {
	for _, c := range []struct {
		id        int64
		seq       int32
		sentBy    int64
		first     int32
		sends     []int
		sequences []int32
	}{
		{-1, -1, -1, -1, []int{1, 2}, []int32{-1, -1}},
		{-1, 7, -1, -1, []int{3}, []int32{-1}},
		{-2, 0, -1, -1, []int{1}, []int32{-1}},
		{math.MinInt64, math.MaxInt32, -1, -1, []int{1}, []int32{-1}},
		{0, 0, 0, 0, []int{1, 2, 3}, []int32{1, 3, 6}},
		{0, -1, 0, 0, []int{1}, []int32{1}},
		{1, math.MinInt32, 1, 0, []int{2}, []int32{2}},
		{7, 41, 7, 41, []int{1, 1}, []int32{42, 43}},
		{math.MaxInt64, math.MaxInt32 - 1, math.MaxInt64, math.MaxInt32 - 1, []int{1, 1, 1}, []int32{math.MaxInt32, 0, 1}},
		{7, math.MaxInt32, 7, math.MaxInt32, []int{1}, []int32{0}},
		{7, math.MaxInt32, 7, math.MaxInt32, []int{5, 1}, []int32{4, 5}},
		{7, math.MaxInt32, 7, math.MaxInt32, []int{api.MostRecords}, []int32{api.MostRecords - 1}},
	} {
		a := always(form(t, api.Reply{Kind: api.AskProduce, Offset: 3}), len(c.sends))
		p := client.NewProducer(a, c.id, c.seq, 0)
		if p.Seq() != c.first {
			t.Errorf("P20.2: of %d and %d: %d, want %d", c.id, c.seq, p.Seq(), c.first)
		}
		seq := c.first
		for i, n := range c.sends {
			list := recordsOf(make([]int64, n)...)
			if base, e := p.Send(list, false); base != 3 || e != api.OK || p.Seq() != c.sequences[i] {
				t.Errorf("P20.3: of %d and %d: %d, %d, next %d", c.id, c.seq, base, e, p.Seq())
			}
			if want := asking(t, api.Request{Kind: api.AskProduce, Data: encoded(t, api.Batch{Producer: c.sentBy, Seq: seq, Records: list})}); a.asked[i] != want {
				t.Errorf("P20.3: of %d and %d: asked %s, want %s", c.id, c.seq, short(a.asked[i]), short(want))
			}
			seq = c.sequences[i]
		}
	}
}

// TestRetries: a request that fails is asked again with the same bytes, as often as the retries count, and no more often than need be.
func TestRetries(t *testing.T) {
	list := recordsOf(5, 6)
	for _, c := range []struct{ retries, most int }{{math.MinInt, 0}, {-1, 0}, {0, 0}, {1, 1}, {2, 2}, {99, 99}, {100, 100}, {101, 100}, {math.MaxInt, 100}} {
		for _, fails := range []int{0, 1, 2, 3, 98, 99, 100, 101, 102} {
			a := &told{replies: slices.Repeat([]string{"", "junk", form(t, api.Reply{Kind: api.AskFlush}), form(t, api.Reply{Err: api.ErrRequest})}, 30)[:fails]}
			a.replies = append(a.replies, form(t, api.Reply{Kind: api.AskProduce, Offset: 9, Double: fails > 0}))
			p := client.NewProducer(a, 7, 3, c.retries)
			base, e := p.Send(list, true)
			wantBase, wantErr, wantSeq, wantAsked := int64(9), api.OK, int32(5), fails+1
			if fails > c.most {
				wantBase, wantErr, wantSeq, wantAsked = 0, api.ErrReply, 3, c.most+1
			}
			if base != wantBase || e != wantErr || p.Seq() != wantSeq || len(a.asked) != wantAsked {
				t.Errorf("P20.3: of %d retries and %d failures: %d, %d, next %d, asked %d times", c.retries, fails, base, e, p.Seq(), len(a.asked))
			}
			if len(slices.Compact(slices.Clone(a.asked))) != 1 {
				t.Errorf("P20.3: of %d retries and %d failures: the bytes differ", c.retries, fails)
			}
		}
	}
}

// TestRefused: a reply with an error ends the retries, and the next batch has the same sequence.
func TestRefused(t *testing.T) {
	for _, e := range []api.Errno{api.ErrGap, api.ErrReply, api.ErrFull, math.MaxInt32} {
		a := &told{replies: []string{"", form(t, api.Reply{Kind: api.AskProduce, Err: e}), "", form(t, api.Reply{Kind: api.AskProduce, Offset: -4})}}
		p := client.NewProducer(a, 7, 3, 5)
		if base, got := p.Send(recordsOf(5), false); base != 0 || got != e || p.Seq() != 3 || len(a.asked) != 2 {
			t.Errorf("P20.3: of the error %d: %d, %d, next %d, asked %d times", e, base, got, p.Seq(), len(a.asked))
		}
		if base, got := p.Send(recordsOf(5), false); base != -4 || got != api.OK || p.Seq() != 4 || len(a.asked) != 4 || a.asked[3] != a.asked[0] {
			t.Errorf("P20.3: behind the error %d: %d, %d, next %d, asked %x", e, base, got, p.Seq(), a.asked)
		}
	}
}

// TestNoFrame: what makes no frame is layer 6's error, and nothing is asked.
func TestNoFrame(t *testing.T) {
	opt := func(n int) api.Opt { return api.Opt{Has: true, Data: strings.Repeat("x", n)} }
	for _, c := range []struct {
		name string
		list []api.Record
		e    api.Errno
	}{
		{"no records", nil, api.ErrNone},
		{"an empty list", []api.Record{}, api.ErrNone},
		{"too many", make([]api.Record, api.MostRecords+1), api.ErrMost},
		{"too many headers", []api.Record{{}, {Headers: make([]api.Header, api.MostHeaders+1)}}, api.ErrMost},
		{"times too far apart", recordsOf(math.MinInt64, math.MaxInt64), api.ErrDelta},
		{"too great a record", []api.Record{{Value: opt(api.MostPlain)}}, api.ErrBig},
		{"too great a body", []api.Record{{Value: opt(api.MostPlain / 2)}, {Value: opt(api.MostPlain / 2)}}, api.ErrBig},
		{"too great a frame", []api.Record{{Value: opt(api.MostFrame - 40)}}, api.ErrBig},
	} {
		for _, packed := range []bool{false, true} {
			if packed && c.name == "too great a frame" {
				continue // it packs well
			}
			for _, id := range []int64{-1, 7} {
				a := always(form(t, api.Reply{Kind: api.AskProduce}), 9)
				p := client.NewProducer(a, id, 3, 5)
				seq := p.Seq()
				if base, e := p.Send(c.list, packed); base != 0 || e != c.e || p.Seq() != seq || len(a.asked) != 0 {
					t.Errorf("P20.3: %s: %d, %d, next %d, asked %d times", c.name, base, e, p.Seq(), len(a.asked))
				}
			}
		}
	}
}

// TestPacked: packed or not as it is told, with keys, values and headers; and the greatest frame.
func TestPacked(t *testing.T) {
	great := []api.Record{{Value: api.Opt{Has: true, Data: strings.Repeat("y", api.MostFrame-api.HeadSize-13)}}}
	for _, list := range [][]api.Record{
		{{Time: math.MinInt64, Key: api.Opt{Has: true}, Value: api.Opt{Data: "passed over"}}, {Time: -1, Headers: []api.Header{{Key: "k", Value: api.Opt{Has: true, Data: "v"}}, {}}}},
		great,
	} {
		for _, packed := range []bool{false, true} {
			a := always(form(t, api.Reply{Kind: api.AskProduce, Offset: 2}), 1)
			p := client.NewProducer(a, 7, 3, 5)
			if base, e := p.Send(list, packed); base != 2 || e != api.OK || p.Seq() != 3+int32(len(list)) {
				t.Errorf("P20.3: %d, %d, next %d", base, e, p.Seq())
			}
			f := encoded(t, api.Batch{Packed: packed, Producer: 7, Seq: 3, Records: list})
			if !packed && len(list) == 1 && len(f) != api.MostFrame {
				t.Errorf("the greatest frame has %d bytes", len(f))
			}
			if want := asking(t, api.Request{Kind: api.AskProduce, Data: f}); len(a.asked) != 1 || a.asked[0] != want {
				t.Errorf("P20.3: asked %s, want %s", short(a.asked[0]), short(want))
			}
		}
	}
}

// TestLongData: a frame that finds no place in a request is layer 17's error, and nothing is asked; one byte less is asked, whatever it is.
func TestLongData(t *testing.T) {
	a := always(form(t, api.Reply{Kind: api.AskProduce, Offset: 2}), 9)
	c := client.New(a)
	s := strings.Repeat("z", api.MostFrame+1)
	if base, double, e := c.Produce(s); base != 0 || double || e != api.ErrLong || len(a.asked) != 0 {
		t.Errorf("P20.1: %d, %v, %d, asked %d times", base, double, e, len(a.asked))
	}
	if base, double, e := c.Produce(s[1:]); base != 2 || double || e != api.OK || len(a.asked) != 1 || len(a.asked[0]) != 5+api.MostFrame {
		t.Errorf("P20.1: %d, %v, %d, asked %d times", base, double, e, len(a.asked))
	}
}
