package client_test

import (
	"fmt"
	"math/rand/v2"
	"strings"
	"testing"

	"gantry/api"
	"gantry/client"
	"gantry/disk"
	"gantry/gather"
	"gantry/plog"
	"gantry/record"
	"gantry/server"
)

// losing is an asker between a client and a server, which loses requests and replies, or what some of their bytes were.
type losing struct {
	r     *rand.Rand
	s     *server.Server
	odds  int // one of so many asks goes well
	asked int
}

func (a *losing) Ask(request string) string {
	a.asked++
	if a.r.IntN(a.odds) == 0 {
		return a.s.Ask(request)
	}
	switch a.r.IntN(6) {
	case 0: // the request is lost
		return ""
	case 1: // its end is lost
		return a.s.Ask(request[:a.r.IntN(len(request))])
	case 2: // the reply is lost
		a.s.Ask(request)
		return ""
	case 3: // its end is lost
		reply := a.s.Ask(request)
		return reply[:a.r.IntN(len(reply))]
	case 4: // another's reply comes
		a.s.Ask(request)
		return a.s.Ask("\x06")
	}
	a.s.Ask(request)
	panic("lost")
}

func opened(t *testing.T, c api.Config) *server.Server {
	t.Helper()
	l, e := plog.Open(disk.New(c.Room), c)
	if e != api.OK {
		t.Fatalf("Open: %d", e)
	}
	return server.New(l)
}

// sender is a producer that sends one batch after the other, each again and again till it gets through.
type sender struct {
	p       *client.Producer
	id      int64
	retries int
	waits   []api.Record // the batch that hasn't got through as yet
	packed  bool
	sent    []api.Record // all records of those that have
	at      []int64      // and their offsets
}

// step makes a batch, if none waits, and sends it.
func (s *sender) step(t *testing.T, r *rand.Rand, a *losing) {
	t.Helper()
	if s.waits == nil {
		for range 1 + r.IntN(4) {
			s.waits = append(s.waits, api.Record{Time: r.Int64N(100), Key: api.Opt{Has: true, Data: fmt.Sprintf("%d/%d", s.id, len(s.sent)+len(s.waits))}, Value: api.Opt{Has: r.IntN(2) == 0}})
		}
		s.packed = r.IntN(2) == 0
	}
	seq, asked := s.p.Seq(), a.asked
	base, e := s.p.Send(s.waits, s.packed)
	if a.asked > asked+1+s.retries {
		t.Fatalf("P20.3: %d retries, asked %d times", s.retries, a.asked-asked)
	}
	switch {
	case e == api.ErrReply && base == 0 && s.p.Seq() == seq && a.asked == asked+1+s.retries:
	case e == api.OK && s.p.Seq() == int32((int64(seq)+int64(len(s.waits)))%(1<<31)):
		for i, one := range s.waits {
			s.sent = append(s.sent, one)
			s.at = append(s.at, base+int64(i))
		}
		s.waits = nil
	default:
		t.Fatalf("P20.3: %d, %d, next %d behind %d", base, e, s.p.Seq(), seq)
	}
}

// consumed answers all rows from the offset from on, however often a fetch fails.
func consumed(t *testing.T, r *rand.Rand, a *losing, from int64) []client.Row {
	t.Helper()
	var all []client.Row
	c := client.NewConsumer(a, from, r.IntN(500))
	for {
		at := c.At()
		rows, e := c.All(1 + r.IntN(5))
		if e != api.OK && e != api.ErrReply {
			t.Fatalf("P20.5: %d", e)
		}
		if c.At() != at+int64(len(rows)) {
			t.Fatalf("P20.5: %d rows from %d to %d", len(rows), at, c.At())
		}
		all = append(all, rows...)
		if e == api.OK && c.At() == a.s.Log().End() {
			return all
		}
	}
}

// TestLosing: however much gets lost, the log has each batch once, in the order of its producer, where Send has told.
func TestLosing(t *testing.T) {
	for seed := range uint64(60) {
		r := rand.New(rand.NewPCG(20, seed))
		s := opened(t, api.Config{Segment: 300 + r.IntN(2000), Frame: 4000, Plain: 4000, Every: 100, Room: 1 << 20, First: 7})
		a := &losing{r: r, s: s, odds: 1 + r.IntN(5)}
		var all []*sender
		for id := range int64(1 + r.IntN(4)) {
			seq, retries := int32([]int64{0, 5, 1<<31 - 1, 1<<31 - 20}[r.IntN(4)]), r.IntN(4)
			all = append(all, &sender{p: client.NewProducer(a, id, seq, retries), id: id, retries: retries})
		}
		for range 150 {
			all[r.IntN(len(all))].step(t, r, a)
		}
		records := 0
		for _, one := range all {
			for one.waits != nil {
				one.step(t, r, a)
			}
			records += len(one.sent)
		}
		rows := consumed(t, r, a, 7)
		if len(rows) != records {
			t.Fatalf("P20.3: the log has %d records, %d were sent", len(rows), records)
		}
		for _, one := range all {
			checkSent(t, one, rows)
		}
	}
}

// checkSent: what a producer has sent stands in the rows, where it was told and in its order.
func checkSent(t *testing.T, s *sender, rows []client.Row) {
	t.Helper()
	last := int64(-1)
	for i, one := range s.sent {
		got := rows[s.at[i]-7]
		if got.Offset != s.at[i] || got.Offset <= last || !record.Same(got.Record, one) {
			t.Fatalf("P20.3: of the producer %d at %d: %v, want %v", s.id, s.at[i], got, one)
		}
		last = got.Offset
	}
}

// TestWithout: of one who sends without a number all that arrives is in the log, twice too.
func TestWithout(t *testing.T) {
	s := opened(t, api.Config{Segment: 1000, Frame: 1000, Plain: 1000, Every: 100, Room: 1 << 20})
	lost := 2
	a := asker(func(q string) string {
		reply := s.Ask(q)
		if lost--; lost >= 0 {
			return ""
		}
		return reply
	})
	p := client.NewProducer(a, -1, 0, 2)
	if base, e := p.Send(recordsOf(1, 2), false); base != 4 || e != api.OK || p.Seq() != -1 || s.Log().End() != 6 {
		t.Errorf("P20.3: %d, %d, next %d; the log ends at %d", base, e, p.Seq(), s.Log().End())
	}
}

// asker is a function that answers.
type asker func(request string) string

func (f asker) Ask(request string) string { return f(request) }

// TestWhole: records that are gathered and sent come back as they were, from any offset on.
func TestWhole(t *testing.T) {
	for seed := range uint64(40) {
		r := rand.New(rand.NewPCG(21, seed))
		s := opened(t, api.Config{Segment: 500, Frame: 4000, Plain: 4000, Every: 100, Room: 1 << 20, First: 3})
		var list []api.Record
		for range 1 + r.IntN(80) {
			list = append(list, randomRecord(r))
		}
		batches, _, e := gather.Split(gather.Bounds{Records: 1 + r.IntN(9), Plain: 3000, Frame: 3500, Span: 1 << 40, Packed: seed%2 == 0}, list)
		if e != api.OK {
			t.Fatalf("Split: %d", e)
		}
		p := client.NewProducer(s, 5, 0, 0)
		for _, b := range batches {
			if base, e := p.Send(b.Records, b.Packed); e != api.OK || base != 3+int64(b.Seq) {
				t.Fatalf("P20.3: %d, %d of the sequence %d", base, e, b.Seq)
			}
		}
		for n := range list {
			c := client.NewConsumer(s, 3+int64(n), r.IntN(600))
			rows, e := c.All(1000)
			if e != api.OK || len(rows) != len(list)-n || c.At() != 3+int64(len(list)) {
				t.Fatalf("P20.5: %d rows, %d, at %d", len(rows), e, c.At())
			}
			for i, row := range rows {
				if row.Offset != 3+int64(n+i) || !record.Same(row.Record, list[n+i]) {
					t.Fatalf("P3: %v, want %v", row, list[n+i])
				}
			}
		}
	}
}

func randomRecord(r *rand.Rand) api.Record {
	opt := func() api.Opt {
		if r.IntN(3) == 0 {
			return api.Opt{}
		}
		return api.Opt{Has: true, Data: strings.Repeat("ab", r.IntN(8))}
	}
	one := api.Record{Time: r.Int64N(50) - 20, Key: opt(), Value: opt()}
	for range r.IntN(3) {
		one.Headers = append(one.Headers, api.Header{Key: strings.Repeat("h", r.IntN(3)), Value: opt()})
	}
	return one
}

// randomData answers frames most of which follow one another, and sometimes something else.
func randomData(t *testing.T, r *rand.Rand, from int64) string {
	t.Helper()
	var out strings.Builder
	next := from - r.Int64N(4)
	for range r.IntN(5) {
		times := make([]int64, 1+r.IntN(4))
		for i := range times {
			times[i] = r.Int64N(100)
		}
		if r.IntN(8) == 0 {
			next += r.Int64N(5) - 2
		}
		f := frame(t, max(next, 0), times...)
		if r.IntN(3) == 0 {
			f = packed(t, max(next, 0), times...)
		}
		switch r.IntN(40) {
		case 0:
			f = harmed(f, r.IntN(len(f)))
		case 1:
			f = f[:r.IntN(len(f))]
		case 2:
			f += f[:r.IntN(9)]
		}
		out.WriteString(f)
		next += int64(len(times))
	}
	return out.String()
}

// TestFetches: whatever comes, a consumer does with it what the chapter's words say in another way.
func TestFetches(t *testing.T) {
	met := map[string]int{}
	for seed := range uint64(200) {
		r := rand.New(rand.NewPCG(22, seed))
		at := r.Int64N(20)
		a := &told{}
		c := client.NewConsumer(a, at, 50)
		for range 30 {
			data := randomData(t, r, at)
			a.replies = append(a.replies, fetched(t, data))
			want, next, ok := fetch(data, at)
			rows, e := c.Next()
			if !ok {
				next = at
			}
			if ok != (e == api.OK) || !ok && e != api.ErrReply || !same(rows, want) || c.At() != next {
				t.Fatalf("P20.4: from %d of %x: %s, %d, at %d, want %s, at %d", at, data, toldRows(rows), e, c.At(), toldRows(want), next)
			}
			met[fmt.Sprintf("ok %t, rows %t", ok, len(rows) > 0)]++
			at = next
		}
	}
	for _, kind := range []string{"ok true, rows true", "ok true, rows false", "ok false, rows false"} {
		if met[kind] < 300 {
			t.Errorf("%s was met %d times", kind, met[kind])
		}
	}
}
