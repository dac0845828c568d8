package server_test

import (
	"math"
	"strings"
	"testing"

	"gantry/api"
	"gantry/disk"
	"gantry/plog"
	"gantry/proto"
	"gantry/server"
)

const (
	least = math.MinInt
	most  = math.MaxInt
)

// wrongKinds answers kinds that no table has, those among them whose last byte is a good kind's.
func wrongKinds() []api.Ask {
	return []api.Ask{0, -1, -2, -6, -7, 7, 8, 9, 127, 128, 255, 256, 257, 262, 65537, 1<<32 + 1, 1<<32 + 6, -255, least, least + 1, most, most - 1}
}

func goodKinds() []api.Ask { return []api.Ask{1, 2, 3, 4, 5, 6} }

// TestWrongKinds: what is of no kind is refused and counted at 0, and does nothing.
func TestWrongKinds(t *testing.T) {
	p := filled(t)
	ahead := snapshot(p.d)
	for i, kind := range wrongKinds() {
		for _, r := range []api.Request{{Kind: kind}, {Kind: kind, Data: frame(t, -1, -1, 1), Offset: 9, Time: 9, Most: 9}} {
			if got := p.do(t, r); got != (api.Reply{Err: api.ErrRequest}) {
				t.Errorf("P18.2: Do(%s): %s", toldAsk(r), toldReply(got))
			}
		}
		if n := p.s.Asked(); n != [7]int{2 * (i + 1), 5, 0, 0, 0, 0, 0} {
			t.Errorf("P18.4: Asked: %d", n)
		}
	}
	if snapshot(p.d) != ahead {
		t.Error("P18.2: what has no kind changes files")
	}
}

// samples answers requests of all kinds, right ones and such that are refused.
func samples(t *testing.T) []api.Request {
	t.Helper()
	data := []string{"", "x", frame(t, -1, -1, 1), frame(t, 7, 3, 1, 2), frame(t, 7, 9, 1), frame(t, 8, 4, 1), frame(t, -1, -1, 1) + "x", rebased(t, frame(t, -1, -1, 1), 12)}
	numbers := []int64{0, 1, 4, 5, 6, 8, 9, 11, 12, 13, -1, math.MinInt64, math.MaxInt64, api.MostOffset, api.MostOffset + 1, 200, 1 << 32, 1<<32 + 5}
	var out []api.Request
	for _, kind := range goodKinds() {
		for i, v := range numbers {
			out = append(out, api.Request{Kind: kind, Data: data[i%len(data)], Offset: v, Time: v, Most: int(numbers[(i*5+2)%len(numbers)])})
		}
	}
	return out
}

// TestAskIsDo: Ask answers the form of Do's reply to what it reads.
func TestAskIsDo(t *testing.T) {
	p, q := filled(t), filled(t)
	for _, r := range samples(t) {
		if r.Kind == api.AskTrim && r.Offset > 8 {
			r.Offset = 8
		}
		want, e := proto.Reply(p.do(t, r))
		if got := q.s.Ask(form(t, r)); got != want || e != api.OK {
			t.Errorf("P18.3: Ask of %s: %s, want %s", toldAsk(r), short(got), short(want))
		}
		if p.s.Asked() != q.s.Asked() {
			t.Errorf("P18.4: Asked: %d by Do, %d by Ask", p.s.Asked(), q.s.Asked())
		}
	}
}

// TestAskOfNoForm: every cut of a form, a form and more, and what is of no kind is refused, and does nothing.
func TestAskOfNoForm(t *testing.T) {
	p := filled(t)
	ahead := snapshot(p.d)
	count := 0
	refuse := func(text string) {
		t.Helper()
		count++
		if got := p.s.Ask(text); got != refused {
			t.Errorf("P18.3: Ask(%s): %s", short(text), short(got))
		}
		if n := p.s.Asked(); n != [7]int{count, 5, 0, 0, 0, 0, 0} {
			t.Errorf("P18.4: Asked: %d, want %d at 0", n, count)
		}
	}
	for _, r := range samples(t) {
		s := form(t, r)
		for n := range len(s) {
			refuse(s[:n])
		}
		refuse(s + "\x00")
		refuse(s + s)
	}
	for first := range 256 {
		if first < 1 || first > 6 {
			refuse(string([]byte{byte(first)}))
			refuse(string([]byte{byte(first)}) + nought + "\x05")
		}
	}
	refuse("\x01\x00\x00\x00\x03ab")
	refuse("\x01\xff\xff\xff\xffab")
	if snapshot(p.d) != ahead {
		t.Error("P18.3: what is no form changes files")
	}
	p.m.asked[0] = count
	p.do(t, api.Request{Kind: api.AskFetch, Offset: 5, Most: 9999})
	p.do(t, api.Request{Kind: api.AskBounds})
	p.do(t, api.Request{Kind: api.AskProduce, Data: frame(t, 7, 3, 1)})
}

// TestMuchData: Ask can't read Data above MostFrame, Do hands whatever comes to the log.
func TestMuchData(t *testing.T) {
	p := filled(t)
	great := frame(t, -1, -1, 1) + strings.Repeat("m", api.MostFrame)
	if r := p.do(t, api.Request{Kind: api.AskProduce, Data: great}); r != (api.Reply{Kind: api.AskProduce, Err: api.ErrLeft}) {
		t.Errorf("P18.2: produced: %s", toldReply(r))
	}
	if got := p.s.Ask("\x01\x01\x00\x00\x01" + great[:api.MostFrame+1]); got != refused {
		t.Errorf("P18.3: Ask of too much: %s", short(got))
	}
	if got := p.s.Ask("\x01\x01\x00\x00\x00" + great[:api.MostFrame]); got != "\x01\x00\x00\x00\x16" {
		t.Errorf("P18.3: Ask of the most: %s", short(got))
	}
	if n := p.s.Asked(); n != [7]int{1, 7, 0, 0, 0, 0, 0} {
		t.Errorf("P18.4: Asked: %d", n)
	}
}

// TestNone: a nil server, the zero one and one over a nil log do nothing; all but the nil one count.
func TestNone(t *testing.T) {
	var none *server.Server
	for name, s := range map[string]*server.Server{"nil": none, "zero": {}, "over nil": server.New(nil)} {
		want := [7]int{}
		ask := func(what string, got, wanted any, kind api.Ask) {
			t.Helper()
			if got != wanted {
				t.Errorf("P18.6: %s: %s: %+v, want %+v", name, what, got, wanted)
			}
			if s != nil {
				want[kind]++
			}
			if n := s.Asked(); n != want {
				t.Errorf("P18.6: %s: %s: Asked: %d, want %d", name, what, n, want)
			}
			if s.Log() != nil {
				t.Errorf("P18.6: %s: %s: there is a log", name, what)
			}
		}
		if n := s.Asked(); n != want {
			t.Errorf("P18.6: %s: Asked: %d", name, n)
		}
		for _, r := range samples(t) {
			ask("Do("+toldAsk(r)+")", s.Do(r), api.Reply{Kind: r.Kind, Err: api.ErrNone}, r.Kind)
			ask("Ask of "+toldAsk(r), s.Ask(form(t, r)), string([]byte{byte(r.Kind)})+"\x00\x00\x00\x04", r.Kind)
		}
		for _, kind := range wrongKinds() {
			r := api.Request{Kind: kind, Offset: 5, Data: "d"}
			ask("Do("+toldAsk(r)+")", s.Do(r), api.Reply{Err: api.ErrRequest}, 0)
		}
		for _, text := range []string{"", "x", "\x04\x00", "\x01\x00\x00\x00\x01"} {
			ask("Ask("+short(text)+")", s.Ask(text), refused, 0)
		}
	}
}

// TestZeroLog: the zero log is a log without segments, from 0 to 0, and what it answers is handed on.
func TestZeroLog(t *testing.T) {
	l := &plog.Log{}
	s := server.New(l)
	if s.Log() != l {
		t.Error("P18.1: another log")
	}
	for _, c := range []struct {
		r    api.Request
		want api.Reply
	}{
		{api.Request{Kind: 1, Data: frame(t, -1, -1, 1)}, api.Reply{Kind: 1, Err: api.ErrNone}},
		{api.Request{Kind: 2, Most: 9}, api.Reply{Kind: 2}},
		{api.Request{Kind: 2, Offset: 1}, api.Reply{Kind: 2, Err: api.ErrOffset}},
		{api.Request{Kind: 3, Time: math.MinInt64}, api.Reply{Kind: 3, Err: api.ErrNone}},
		{api.Request{Kind: 4}, api.Reply{Kind: 4, Err: api.ErrNone}},
		{api.Request{Kind: 5}, api.Reply{Kind: 5, Err: api.ErrNone}},
		{api.Request{Kind: 6, Offset: 3}, api.Reply{Kind: 6}},
		{api.Request{Kind: 7}, api.Reply{Err: api.ErrRequest}},
	} {
		if got := s.Do(c.r); got != c.want {
			t.Errorf("P18.2: Do(%s): %s, want %s", toldAsk(c.r), toldReply(got), toldReply(c.want))
		}
	}
	if n := s.Asked(); n != [7]int{1, 1, 2, 1, 1, 1, 1} {
		t.Errorf("P18.4: Asked: %d", n)
	}
}

// TestAskedIsKept: what Asked has answered is a list of its own, and two servers count by themselves.
func TestAskedIsKept(t *testing.T) {
	c := config()
	s := server.New(opened(t, disk.New(c.Room), c))
	twin := server.New(s.Log())
	ahead := s.Asked()
	ahead[6] = 9
	s.Do(api.Request{Kind: api.AskBounds})
	s.Do(api.Request{Kind: api.AskTrim, Offset: -1})
	if n := s.Asked(); n != [7]int{0, 0, 0, 0, 0, 1, 1} || ahead != [7]int{6: 9} {
		t.Errorf("P18.4: Asked: %d, ahead of it %d", n, ahead)
	}
	if n := twin.Asked(); n != [7]int{} {
		t.Errorf("P18.4: a server that wasn't asked: %d", n)
	}
}
