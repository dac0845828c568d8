package server_test

import (
	"math"
	"math/rand/v2"
	"strconv"
	"strings"
	"testing"

	"gantry/api"
	"gantry/disk"
	"gantry/power"
	"gantry/proto"
	"gantry/server"
)

func pick[T any](dice *rand.Rand, of ...T) T { return of[dice.IntN(len(of))] }

// batchOf answers a batch of one of few producers, whose sequence mostly follows, comes again or lies near; now and then one that is too great.
func batchOf(dice *rand.Rand, s *server.Server) api.Batch {
	b := api.Batch{Packed: dice.IntN(2) == 0, Producer: dice.Int64N(4) - 1, Seq: -1}
	if b.Producer >= 0 {
		next, _ := s.Log().Book().Next(b.Producer)
		b.Seq = max(0, next+pick[int32](dice, 0, 0, 0, 0, -1, -2, -6, 1, 4))
	}
	for range 1 + dice.IntN(3) {
		value := strings.Repeat(pick(dice, "v", "vw"), dice.IntN(pick(dice, 20, 20, 20, 700)))
		b.Records = append(b.Records, api.Record{Time: dice.Int64N(60) - 30, Value: api.Opt{Has: true, Data: value}})
	}
	return b
}

// request answers any request, most of them such that there is something to be answered.
func request(t *testing.T, dice *rand.Rand, s *server.Server) api.Request {
	t.Helper()
	start, end := s.Log().Start(), s.Log().End()
	r := api.Request{
		Kind:   pick[api.Ask](dice, 1, 1, 1, 1, 2, 2, 3, 3, 4, 5, 6),
		Offset: pick(dice, start, end, start-2+dice.Int64N(end-start+4), start-2+dice.Int64N(end-start+4), math.MinInt64, math.MaxInt64),
		Time:   pick(dice, dice.Int64N(70)-35, dice.Int64N(70)-35, math.MinInt64, math.MaxInt64),
		Most:   pick(dice, dice.IntN(600), dice.IntN(600), 0, least, most),
		Data:   encoded(t, batchOf(dice, s)),
	}
	if r.Kind == api.AskProduce && dice.IntN(6) == 0 {
		r.Data = pick(dice, "", r.Data+"x", r.Data[:dice.IntN(len(r.Data))], turned(dice, r.Data), rebased(t, r.Data, 1+dice.Int64N(9)))
	}
	return r
}

func turned(dice *rand.Rand, s string) string {
	b := []byte(s)
	b[dice.IntN(len(b))] ^= byte(1 + dice.IntN(255))
	return string(b)
}

// text answers a request's form, now and then one that is harmed.
func text(t *testing.T, dice *rand.Rand, r api.Request) string {
	t.Helper()
	s := form(t, r)
	switch dice.IntN(12) {
	case 0:
		return s[:dice.IntN(len(s))]
	case 1:
		return s + pick(dice, "\x00", s)
	case 2:
		return turned(dice, s)
	}
	return s
}

// TestRows goes through rows of requests to two servers over one log, which answer what one would: what a list of frames answers.
func TestRows(t *testing.T) {
	for seed := range uint64(200) {
		dice := rand.New(rand.NewPCG(seed, 18))
		c := api.Config{Segment: pick(dice, 1, 200, 500, 2000), Frame: 1000, Plain: 1000, Every: pick(dice, 1, 70, 200, 700), Room: 1 << 20, First: pick[int64](dice, 0, 7, 1<<40, api.MostOffset-60)}
		p := newPair(t, c)
		q := &pair{p.d, server.New(p.s.Log()), p.m}
		counts := map[*pair][7]int{}
		for step := range 100 {
			one := pick(dice, p, q)
			p.m.asked = counts[one]
			if r := request(t, dice, p.s); dice.IntN(2) == 0 {
				one.do(t, r)
			} else {
				one.ask(t, text(t, dice, r))
			}
			counts[one] = p.m.asked
			if t.Failed() {
				t.Fatalf("row %d, step %d", seed, step)
			}
		}
	}
}

// answers tells all that a server answers when it is asked whatever changes nothing.
func answers(s *server.Server) string {
	var out strings.Builder
	tell := func(r api.Request) { out.WriteString(toldAsk(r) + toldReply(s.Do(r)) + "\n") }
	bounds := s.Do(api.Request{Kind: api.AskBounds})
	tell(api.Request{Kind: api.AskBounds})
	for o := bounds.Offset - 2; o < bounds.End+2; o++ {
		for _, bytes := range []int{0, 100, 300, most} {
			tell(api.Request{Kind: api.AskFetch, Offset: o, Most: bytes})
		}
	}
	for at := int64(-31); at < 32; at++ {
		tell(api.Request{Kind: api.AskTime, Time: at})
	}
	book := s.Log().Book()
	for _, p := range book.Producers() {
		next, _ := book.Next(p)
		out.WriteString("producer " + strconv.FormatInt(p, 10) + " " + strconv.Itoa(int(next)) + "\n")
	}
	return out.String()
}

// TestRefusedChangeNothing: of two servers over logs of their own, in rooms that run out, one is asked all requests, the other those alone that weren't refused. All that is answered behind it is the same, and so are the files, and what is answered behind a crash.
func TestRefusedChangeNothing(t *testing.T) {
	full := 0
	for seed := range uint64(200) {
		dice := rand.New(rand.NewPCG(seed, 182))
		c := api.Config{Segment: pick(dice, 1, 200, 500, 2000), Frame: 1000, Plain: 1000, Every: pick(dice, 1, 70, 700), Room: 300 + dice.IntN(2500), First: pick[int64](dice, 0, 7, api.MostOffset-60)}
		d, e := disk.New(c.Room), disk.New(c.Room)
		s, spared := server.New(opened(t, d, c)), server.New(opened(t, e, c))
		for range 60 {
			q := text(t, dice, request(t, dice, s))
			a := s.Ask(q)
			r, why := proto.ReadReply(a)
			if why != api.OK {
				t.Fatalf("P18.3: Ask(%s) answers no reply: %s", short(q), short(a))
			}
			if r.Err == api.ErrFull {
				full++
			}
			if r.Err != api.OK {
				continue
			}
			if b := spared.Ask(q); a != b {
				t.Errorf("P18.3: row %d: Ask(%s): %s behind what was refused, %s without it", seed, short(q), short(a), short(b))
			}
		}
		if answers(s) != answers(spared) || snapshot(d) != snapshot(e) {
			t.Errorf("P18.3: row %d: what was refused has changed something", seed)
		}
		power.Crash(d, power.Least(d)...)
		power.Crash(e, power.Least(e)...)
		if answers(server.New(opened(t, d, c))) != answers(server.New(opened(t, e, c))) {
			t.Errorf("P18.3: row %d: what was refused has changed something behind a crash", seed)
		}
	}
	if full < 100 {
		t.Errorf("the room ran out %d times alone", full)
	}
}

// TestAnyText: whatever comes, the form of a good reply is answered.
func TestAnyText(t *testing.T) {
	p := filled(t)
	dice := rand.New(rand.NewPCG(0, 183))
	for range 20000 {
		b := make([]byte, dice.IntN(24))
		for i := range b {
			b[i] = byte(pick(dice, 0, 0, 0, 0, 1, 2, 3, 4, 5, 6, 9, dice.IntN(256)))
		}
		if len(b) > 0 && dice.IntN(4) > 0 {
			b[0] = byte(dice.IntN(8))
		}
		if a := p.s.Ask(string(b)); a == "" {
			t.Errorf("P18.3: Ask(%x) answers nothing", b)
		} else if _, e := proto.ReadReply(a); e != api.OK {
			t.Errorf("P18.3: Ask(%x) answers no reply: %s", b, short(a))
		}
	}
}
