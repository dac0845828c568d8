package server_test

import (
	"fmt"
	"slices"
	"strings"
	"testing"

	"gantry/api"
	"gantry/batch"
	"gantry/disk"
	"gantry/plog"
	"gantry/producer"
	"gantry/proto"
	"gantry/server"
)

// model is what a server must answer by the document's words: a list of frames, and the places in it where segments begin. Whatever is asked is found by going through them from the first on. There is always room.
type model struct {
	c      api.Config
	start  int64
	frames []piece
	begins []int // the numbers of the frames with which segments begin, the first one but
	asked  [7]int
}

type piece struct {
	text string
	api.Batch
}

func (p piece) end() int64 { return p.Base + int64(len(p.Records)) }

func (m *model) end() int64 {
	if len(m.frames) == 0 {
		return m.start
	}
	return m.frames[len(m.frames)-1].end()
}

// do is P18.2's table.
func (m *model) do(r api.Request) api.Reply {
	if r.Kind < 1 || r.Kind > 6 {
		m.asked[0]++
		return api.Reply{Err: api.ErrRequest}
	}
	m.asked[r.Kind]++
	a := api.Reply{Kind: r.Kind}
	switch r.Kind {
	case api.AskProduce:
		a.Offset, a.Double, a.Err = m.produce(r.Data)
	case api.AskFetch:
		a.End = m.end()
		a.Data, a.Err = m.fetch(r.Offset, r.Most)
	case api.AskTime:
		a.Offset, a.Err = m.time(r.Time)
	case api.AskFlush:
		a.End = m.end()
	case api.AskTrim:
		a.Offset, a.Err = m.trim(r.Offset)
	case api.AskBounds:
		a.Offset, a.End = m.start, m.end()
	}
	if a.Err != api.OK {
		return api.Reply{Kind: r.Kind, Err: a.Err}
	}
	return a
}

func (m *model) produce(data string) (int64, bool, api.Errno) {
	h, e := batch.Check(data, m.c.Frame, m.c.Plain)
	switch {
	case e != api.OK:
		return 0, false, e
	case h.Length < len(data):
		return 0, false, api.ErrLeft
	case h.Base != 0:
		return 0, false, api.ErrBatch
	}
	var heads []api.Head
	for _, p := range m.frames {
		heads = append(heads, api.Head{Base: p.Base, Count: len(p.Records), Producer: p.Producer, Seq: p.Seq})
	}
	base, e := producer.Of(heads).Check(h.Producer, h.Seq, h.Count)
	if e != api.OK {
		if e == api.ErrDouble {
			return base, true, api.OK
		}
		return 0, false, e
	}
	if m.end() > api.MostOffset-int64(h.Count) {
		return 0, false, api.ErrOver
	}
	text, _ := batch.Rebase(data, m.end())
	b, _, _ := batch.Decode(text, m.c.Frame, m.c.Plain)
	m.roll(len(text))
	m.frames = append(m.frames, piece{text, b})
	return b.Base, false, api.OK
}

// roll begins a segment, if the last one has frames and not enough room for one of so many bytes.
func (m *model) roll(bytes int) {
	from := 0
	if n := len(m.begins); n > 0 {
		from = m.begins[n-1]
	}
	size := 0
	for _, p := range m.frames[from:] {
		size += len(p.text)
	}
	if size > 0 && size+bytes > m.c.Segment {
		m.begins = append(m.begins, len(m.frames))
	}
}

func (m *model) fetch(offset int64, most int) (string, api.Errno) {
	if offset < m.start || offset > m.end() {
		return "", api.ErrOffset
	}
	out := ""
	for _, p := range m.frames {
		if p.end() <= offset {
			continue
		}
		if out != "" && len(out)+len(p.text) > most {
			break
		}
		out += p.text
	}
	return out, api.OK
}

func (m *model) time(t int64) (int64, api.Errno) {
	for _, p := range m.frames {
		for i, r := range p.Records {
			if r.Time >= t {
				return p.Base + int64(i), api.OK
			}
		}
	}
	return 0, api.ErrNone
}

func (m *model) trim(offset int64) (int64, api.Errno) {
	if offset < 0 || offset > m.end() {
		return 0, api.ErrOffset
	}
	for len(m.begins) > 0 && m.frames[m.begins[0]].Base <= offset {
		gone := m.begins[0]
		m.start = m.frames[gone].Base
		m.frames = m.frames[gone:]
		m.begins = slices.Clone(m.begins[1:])
		for i := range m.begins {
			m.begins[i] -= gone
		}
	}
	return m.start, api.OK
}

// pair is a server and its model, which are asked the same.
type pair struct {
	d *disk.Disk
	s *server.Server
	m *model
}

func config() api.Config {
	return api.Config{Segment: 200, Frame: 1000, Plain: 1000, Every: 70, Room: 1 << 20, First: 5}
}

func newPair(t *testing.T, c api.Config) *pair {
	t.Helper()
	d := disk.New(c.Room)
	return &pair{d, server.New(opened(t, d, c)), &model{c: c, start: c.First}}
}

func opened(t *testing.T, d *disk.Disk, c api.Config) *plog.Log {
	t.Helper()
	l, e := plog.Open(d, c)
	if l == nil || e != api.OK {
		t.Fatalf("Open: %d", e)
	}
	return l
}

// do asks for a request by Do, and answers what came.
func (p *pair) do(t *testing.T, r api.Request) api.Reply {
	t.Helper()
	got, want := p.s.Do(r), p.m.do(r)
	if got != want {
		t.Errorf("P18.2: Do(%s): %s, want %s", toldAsk(r), toldReply(got), toldReply(want))
	}
	p.counted(t)
	return got
}

// ask asks for a text by Ask, and answers the reply that came.
func (p *pair) ask(t *testing.T, text string) api.Reply {
	t.Helper()
	var reply api.Reply
	if r, e := proto.ReadAsk(text); e == api.OK {
		reply = p.m.do(r)
	} else {
		p.m.asked[0]++
		reply = api.Reply{Err: api.ErrRequest}
	}
	want, e := proto.Reply(reply)
	if e != api.OK {
		t.Fatalf("the model's reply has no form: %s", toldReply(reply))
	}
	if got := p.s.Ask(text); got != want {
		t.Errorf("P18.3: Ask(%s): %s, want %s", short(text), short(got), short(want))
	}
	p.counted(t)
	return reply
}

func (p *pair) counted(t *testing.T) {
	t.Helper()
	if n := p.s.Asked(); n != p.m.asked {
		t.Errorf("P18.4: Asked: %d, want %d", n, p.m.asked)
	}
}

// short tells a text by its first bytes.
func short(s string) string {
	if len(s) > 80 {
		return fmt.Sprintf("%x.. (%d bytes)", s[:80], len(s))
	}
	return fmt.Sprintf("%x", s)
}

func toldAsk(r api.Request) string {
	return fmt.Sprintf("{Kind %d, Data %s, Offset %d, Time %d, Most %d}", r.Kind, short(r.Data), r.Offset, r.Time, r.Most)
}

func toldReply(r api.Reply) string {
	return fmt.Sprintf("{Kind %d, Err %d, Double %t, Offset %d, End %d, Data %s}", r.Kind, r.Err, r.Double, r.Offset, r.End, short(r.Data))
}

// frame answers a frame of records with these times, each of one byte's value, as it is sent.
func frame(t *testing.T, producer int64, seq int32, times ...int64) string {
	t.Helper()
	b := api.Batch{Producer: producer, Seq: seq}
	for _, at := range times {
		b.Records = append(b.Records, api.Record{Time: at, Value: api.Opt{Has: true, Data: "v"}})
	}
	return encoded(t, b)
}

func encoded(t *testing.T, b api.Batch) string {
	t.Helper()
	s, e := batch.Encode(b)
	if e != api.OK {
		t.Fatalf("Encode: %d", e)
	}
	return s
}

func rebased(t *testing.T, frame string, base int64) string {
	t.Helper()
	s, e := batch.Rebase(frame, base)
	if e != api.OK {
		t.Fatalf("Rebase: %d", e)
	}
	return s
}

// form answers a request's form.
func form(t *testing.T, r api.Request) string {
	t.Helper()
	s, e := proto.Ask(r)
	if e != api.OK {
		t.Fatalf("proto.Ask: %d", e)
	}
	return s
}

// snapshot tells all of a disk: its files' names, bytes and what is safe of them.
func snapshot(d *disk.Disk) string {
	var out strings.Builder
	for _, name := range d.List() {
		size, _ := d.Size(name)
		s, _ := d.Read(name, 0, size)
		synced, _ := d.Synced(name)
		fmt.Fprintf(&out, "%s %x|%x\n", name, s[:synced], s[synced:])
	}
	return out.String()
}
