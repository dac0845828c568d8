package server_test

import (
	"strings"
	"testing"

	"gantry/api"
	"gantry/disk"
	"gantry/server"
)

const nought = "\x00\x00\x00\x00\x00\x00\x00"

// refused is the form of the reply to what is no request.
const refused = "\x00\x00\x00\x00\x5a"

// TestExamples is the chapter's examples, number by number.
func TestExamples(t *testing.T) {
	c := config()
	c.First = 0
	s := server.New(opened(t, disk.New(c.Room), c))
	f := frame(t, -1, -1, 7)
	data := f + rebased(t, f, 1)
	ask := func(r api.Request, want string) {
		t.Helper()
		if got := s.Ask(form(t, r)); got != want {
			t.Errorf("P18.3: Ask of %s: %s, want %s", toldAsk(r), short(got), short(want))
		}
	}
	ask(api.Request{Kind: api.AskProduce, Data: f}, "\x01\x00\x00\x00\x00\x00"+nought+"\x00")
	ask(api.Request{Kind: api.AskProduce, Data: f}, "\x01\x00\x00\x00\x00\x00"+nought+"\x01")
	ask(api.Request{Kind: api.AskFetch}, "\x02\x00\x00\x00\x00"+nought+"\x02\x00\x00\x00"+string([]byte{byte(len(f))})+f)
	ask(api.Request{Kind: api.AskFetch, Offset: 3}, "\x02\x00\x00\x00\x3c")
	ask(api.Request{Kind: api.AskBounds}, "\x06\x00\x00\x00\x00"+nought+"\x00"+nought+"\x02")
	ask(api.Request{Kind: api.AskTrim, Offset: 9}, "\x05\x00\x00\x00\x3c")
	for _, text := range []string{"", "\x09"} {
		if got := s.Ask(text); got != refused {
			t.Errorf("P18.3: Ask(%s): %s", short(text), short(got))
		}
	}
	if n := s.Asked(); n != [7]int{2, 2, 2, 0, 0, 1, 1} {
		t.Errorf("P18.4: Asked: %d", n)
	}
	ask(api.Request{Kind: api.AskFetch, Most: len(data)}, "\x02\x00\x00\x00\x00"+nought+"\x02\x00\x00\x00"+string([]byte{byte(len(data))})+data)
	ask(api.Request{Kind: api.AskTime, Time: 7}, "\x03\x00\x00\x00\x00"+nought+"\x00")
	ask(api.Request{Kind: api.AskTime, Time: 8}, "\x03\x00\x00\x00\x04")
	ask(api.Request{Kind: api.AskFlush}, "\x04\x00\x00\x00\x00"+nought+"\x02")
	ask(api.Request{Kind: api.AskTrim, Offset: 2}, "\x05\x00\x00\x00\x00"+nought+"\x00")
}

// filled answers a pair of five frames of the offsets 5, 6 and 7, 8, 9 and 10, 11: three in the first segment, two in the second.
func filled(t *testing.T) *pair {
	t.Helper()
	p := newPair(t, config())
	for _, f := range filling(t) {
		if r := p.do(t, api.Request{Kind: api.AskProduce, Data: f}); r.Err != api.OK || r.Double {
			t.Fatalf("P18.2: %s", toldReply(r))
		}
	}
	if n := p.s.Log().Bases(); len(n) != 2 || n[1] != 9 {
		t.Fatalf("P15.3: the segments are %d", n)
	}
	return p
}

func filling(t *testing.T) []string {
	t.Helper()
	return []string{frame(t, -1, -1, 10), frame(t, 7, 0, 20, 15), frame(t, 7, 2, 5), frame(t, -1, -1, 30, 20), frame(t, 8, 4, 1)}
}

// TestTable is P18.2's table upon one log, each reply written out. Every request has something in all fields that its kind doesn't use.
func TestTable(t *testing.T) {
	p := filled(t)
	f := filling(t)
	frames := []string{rebased(t, f[0], 5), rebased(t, f[1], 6), rebased(t, f[2], 8), rebased(t, f[3], 9), rebased(t, f[4], 11)}
	from := func(n, most int) string { return strings.Join(frames[n:most], "") }
	for _, c := range []struct {
		name string
		r    api.Request
		want api.Reply
	}{
		{"a batch that is there", api.Request{Kind: 1, Data: f[1], Offset: 9, Time: 9, Most: 9}, api.Reply{Kind: 1, Double: true, Offset: 6}},
		{"the last batch that is there", api.Request{Kind: 1, Data: f[4]}, api.Reply{Kind: 1, Double: true, Offset: 11}},
		{"a batch that is missing", api.Request{Kind: 1, Data: frame(t, 7, 4, 1)}, api.Reply{Kind: 1, Err: api.ErrGap}},
		{"a batch whose time is over", api.Request{Kind: 1, Data: frame(t, 7, 1, 1)}, api.Reply{Kind: 1, Err: api.ErrStale}},
		{"a frame that is cut", api.Request{Kind: 1, Data: f[0][:50]}, api.Reply{Kind: 1, Err: api.ErrShort}},
		{"a frame and more", api.Request{Kind: 1, Data: f[0] + "x"}, api.Reply{Kind: 1, Err: api.ErrLeft}},
		{"a frame of another base", api.Request{Kind: 1, Data: frames[0]}, api.Reply{Kind: 1, Err: api.ErrBatch}},
		{"no frame", api.Request{Kind: 1, Offset: 5, Most: 5}, api.Reply{Kind: 1, Err: api.ErrShort}},
		{"all", api.Request{Kind: 2, Offset: 5, Most: 10000, Data: f[0], Time: 9}, api.Reply{Kind: 2, End: 12, Data: from(0, 5)}},
		{"one", api.Request{Kind: 2, Offset: 5}, api.Reply{Kind: 2, End: 12, Data: from(0, 1)}},
		{"one, of less than none", api.Request{Kind: 2, Offset: 7, Most: -1}, api.Reply{Kind: 2, End: 12, Data: from(1, 2)}},
		{"one, of the least", api.Request{Kind: 2, Offset: 6, Most: least}, api.Reply{Kind: 2, End: 12, Data: from(1, 2)}},
		{"all, of the most", api.Request{Kind: 2, Offset: 6, Most: most}, api.Reply{Kind: 2, End: 12, Data: from(1, 5)}},
		{"two, of the bytes of two", api.Request{Kind: 2, Offset: 8, Most: len(from(2, 4))}, api.Reply{Kind: 2, End: 12, Data: from(2, 4)}},
		{"one, of a byte less", api.Request{Kind: 2, Offset: 8, Most: len(from(2, 4)) - 1}, api.Reply{Kind: 2, End: 12, Data: from(2, 3)}},
		{"the last", api.Request{Kind: 2, Offset: 11, Most: 10000}, api.Reply{Kind: 2, End: 12, Data: from(4, 5)}},
		{"the end", api.Request{Kind: 2, Offset: 12, Most: 10000}, api.Reply{Kind: 2, End: 12}},
		{"behind the end", api.Request{Kind: 2, Offset: 13, Most: 10000}, api.Reply{Kind: 2, Err: api.ErrOffset}},
		{"ahead of the start", api.Request{Kind: 2, Offset: 4, Most: 10000}, api.Reply{Kind: 2, Err: api.ErrOffset}},
		{"the first time", api.Request{Kind: 3, Time: -1, Offset: 9, Most: 9, Data: "d"}, api.Reply{Kind: 3, Offset: 5}},
		{"a time in a batch", api.Request{Kind: 3, Time: 16}, api.Reply{Kind: 3, Offset: 6}},
		{"a time in the second segment", api.Request{Kind: 3, Time: 21}, api.Reply{Kind: 3, Offset: 9}},
		{"the last time", api.Request{Kind: 3, Time: 30}, api.Reply{Kind: 3, Offset: 9}},
		{"no time", api.Request{Kind: 3, Time: 31, Offset: 5}, api.Reply{Kind: 3, Err: api.ErrNone}},
		{"a flush", api.Request{Kind: 4, Offset: -1, Time: 9, Most: 9, Data: "d"}, api.Reply{Kind: 4, End: 12}},
		{"bounds", api.Request{Kind: 6, Offset: -1, Time: 9, Most: 9, Data: "d"}, api.Reply{Kind: 6, Offset: 5, End: 12}},
		{"a trim below all", api.Request{Kind: 5, Offset: -1}, api.Reply{Kind: 5, Err: api.ErrOffset}},
		{"a trim behind all", api.Request{Kind: 5, Offset: 13, Time: 9}, api.Reply{Kind: 5, Err: api.ErrOffset}},
		{"a trim of too little", api.Request{Kind: 5, Offset: 8, Most: 9, Data: "d"}, api.Reply{Kind: 5, Offset: 5}},
		{"a trim", api.Request{Kind: 5, Offset: 9, Time: 99}, api.Reply{Kind: 5, Offset: 9}},
		{"bounds behind a trim", api.Request{Kind: 6}, api.Reply{Kind: 6, Offset: 9, End: 12}},
		{"what is trimmed", api.Request{Kind: 2, Offset: 8, Most: 10000}, api.Reply{Kind: 2, Err: api.ErrOffset}},
		{"a time that is trimmed", api.Request{Kind: 3, Time: 10}, api.Reply{Kind: 3, Offset: 9}},
		{"a trim of what is gone", api.Request{Kind: 5, Offset: 0}, api.Reply{Kind: 5, Offset: 9}},
		{"a batch of a producer that is forgotten", api.Request{Kind: 1, Data: f[1]}, api.Reply{Kind: 1, Offset: 12}},
		{"a new batch", api.Request{Kind: 1, Data: f[0], Offset: 5, Time: 5, Most: 5}, api.Reply{Kind: 1, Offset: 14}},
	} {
		if got := p.do(t, c.r); got != c.want {
			t.Errorf("P18.2: %s: %s, want %s", c.name, toldReply(got), toldReply(c.want))
		}
	}
}

// TestLog: a server works upon the very log that it was given.
func TestLog(t *testing.T) {
	c := config()
	l := opened(t, disk.New(c.Room), c)
	s := server.New(l)
	if s.Log() != l {
		t.Error("P18.1: another log")
	}
	s.Do(api.Request{Kind: api.AskProduce, Data: frame(t, -1, -1, 1, 2)})
	if s.Log() != l || l.End() != 7 {
		t.Errorf("P18.1: the log's end is %d", l.End())
	}
	l.Append(frame(t, -1, -1, 3))
	if r := s.Do(api.Request{Kind: api.AskBounds}); r.End != 8 {
		t.Errorf("P18.1: the server's end is %d", r.End)
	}
}

// TestOver: where offsets would pass MostOffset.
func TestOver(t *testing.T) {
	c := config()
	c.First = api.MostOffset - 2
	p := newPair(t, c)
	one, two := frame(t, -1, -1, 1), frame(t, -1, -1, 1, 2)
	for _, step := range []struct {
		data   string
		offset int64
		e      api.Errno
	}{{one + "x", 0, api.ErrLeft}, {frame(t, -1, -1, 1, 2, 3), 0, api.ErrOver}, {one, api.MostOffset - 2, api.OK}, {two, 0, api.ErrOver}, {one, api.MostOffset - 1, api.OK}, {one, 0, api.ErrOver}} {
		if r := p.do(t, api.Request{Kind: api.AskProduce, Data: step.data}); r != (api.Reply{Kind: api.AskProduce, Err: step.e, Offset: step.offset}) {
			t.Errorf("P18.2: produced: %s", toldReply(r))
		}
	}
	p.ask(t, form(t, api.Request{Kind: api.AskFetch, Offset: api.MostOffset - 1, Most: 999}))
	p.ask(t, form(t, api.Request{Kind: api.AskFetch, Offset: api.MostOffset}))
	p.ask(t, form(t, api.Request{Kind: api.AskBounds}))
}

// TestSynced: a flush makes safe what was produced, and nothing else does.
func TestSynced(t *testing.T) {
	p := newPair(t, config())
	p.do(t, api.Request{Kind: api.AskProduce, Data: frame(t, -1, -1, 1)})
	name := p.d.List()[0]
	for _, kind := range []api.Ask{api.AskFetch, api.AskTime, api.AskTrim, api.AskBounds, 0, 7} {
		p.do(t, api.Request{Kind: kind, Offset: 5})
	}
	if n, _ := p.d.Synced(name); n != 0 {
		t.Errorf("P18.2: %d bytes of %s are safe ahead of a flush", n, name)
	}
	p.do(t, api.Request{Kind: api.AskFlush})
	size, _ := p.d.Size(name)
	if n, _ := p.d.Synced(name); n != size || n == 0 {
		t.Errorf("P18.2: %d bytes of %s are safe behind a flush, want %d", n, name, size)
	}
}
