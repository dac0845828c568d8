package client_test

import (
	"fmt"
	"slices"
	"strings"
	"testing"

	"gantry/api"
	"gantry/batch"
	"gantry/client"
	"gantry/proto"
	"gantry/record"
	"gantry/scan"
)

// told answers what it is told to, then no bytes, and keeps what it was asked.
type told struct {
	replies, asked []string
}

func (a *told) Ask(request string) string {
	a.asked = append(a.asked, request)
	if len(a.asked) > len(a.replies) {
		return ""
	}
	return a.replies[len(a.asked)-1]
}

// always answers the same, whatever it is asked.
func always(reply string, times int) *told {
	return &told{replies: slices.Repeat([]string{reply}, times)}
}

// form answers a reply's form.
func form(t *testing.T, r api.Reply) string {
	t.Helper()
	s, e := proto.Reply(r)
	if e != api.OK {
		t.Fatalf("proto.Reply: %d", e)
	}
	return s
}

// asking answers a request's form.
func asking(t *testing.T, q api.Request) string {
	t.Helper()
	s, e := proto.Ask(q)
	if e != api.OK {
		t.Fatalf("proto.Ask: %d", e)
	}
	return s
}

func fetched(t *testing.T, data string) string {
	t.Helper()
	return form(t, api.Reply{Kind: api.AskFetch, End: 1 << 40, Data: data})
}

func encoded(t *testing.T, b api.Batch) string {
	t.Helper()
	s, e := batch.Encode(b)
	if e != api.OK {
		t.Fatalf("Encode: %d", e)
	}
	return s
}

// frame answers a frame of records with these times, without a producer.
func frame(t *testing.T, base int64, times ...int64) string {
	t.Helper()
	return encoded(t, api.Batch{Base: base, Producer: -1, Seq: -1, Records: recordsOf(times...)})
}

func recordsOf(times ...int64) []api.Record {
	var out []api.Record
	for _, at := range times {
		out = append(out, api.Record{Time: at})
	}
	return out
}

// fetch is P20.4 in another way: layer 12 finds the frames, and all their records are laid out ahead of taking those from at on.
func fetch(data string, at int64) ([]client.Row, int64, bool) {
	if data == "" {
		return nil, at, true
	}
	h, e := batch.Peek(data)
	if e != api.OK {
		return nil, 0, false
	}
	list, end, _ := scan.All(data, h.Base, api.MostFrame, api.MostPlain)
	if end < len(data) || len(list) == 0 {
		return nil, 0, false
	}
	var all []client.Row
	for _, f := range list {
		b, _, _ := batch.Decode(data[f.At:], api.MostFrame, api.MostPlain)
		for _, r := range b.Records {
			all = append(all, client.Row{Offset: h.Base + int64(len(all)), Record: r})
		}
	}
	n := slices.IndexFunc(all, func(r client.Row) bool { return r.Offset == at })
	if n < 0 || n >= list[0].Head.Count {
		return nil, 0, false
	}
	return all[n:], all[len(all)-1].Offset + 1, true
}

// same tells whether rows are the same, null apart from empty.
func same(a, b []client.Row) bool {
	return slices.EqualFunc(a, b, func(a, b client.Row) bool {
		return a.Offset == b.Offset && record.Same(a.Record, b.Record)
	})
}

// toldRows tells rows by offsets and times.
func toldRows(rows []client.Row) string {
	var out strings.Builder
	for _, r := range rows {
		fmt.Fprintf(&out, " %d:%d", r.Offset, r.Record.Time)
	}
	return "[" + strings.TrimSpace(out.String()) + "]"
}

// short tells a text by its first bytes.
func short(s string) string {
	if len(s) > 80 {
		return fmt.Sprintf("%x.. (%d bytes)", s[:80], len(s))
	}
	return fmt.Sprintf("%x", s)
}

// outcome is what a call of any kind has answered: its numbers, its text, its rows, and its error.
type outcome struct {
	first, second int64
	double        bool
	text          string
	rows          string
	e             api.Errno
}

// call is a call that asks, with the kind of its request, the request's bytes, a good reply, and what the call makes of it.
type call struct {
	name  string
	kind  api.Ask
	do    func(a client.Asker) outcome
	asked string
	reply api.Reply
	want  outcome
}

const nought = "\x00\x00\x00\x00\x00\x00\x00"

// calls is one of each call that asks.
func calls(t *testing.T) []call {
	t.Helper()
	data := frame(t, 6, 4, 5) + frame(t, 8, 3)
	sent := encoded(t, api.Batch{Producer: 9, Seq: 8, Records: recordsOf(1, 2)})
	return []call{
		{"Produce", api.AskProduce, func(a client.Asker) outcome {
			n, double, e := client.New(a).Produce("ab")
			return outcome{first: n, double: double, e: e}
		}, "\x01\x00\x00\x00\x02ab", api.Reply{Kind: api.AskProduce, Offset: 5, Double: true}, outcome{first: 5, double: true}},
		{"Fetch", api.AskFetch, func(a client.Asker) outcome {
			s, n, e := client.New(a).Fetch(7, -1)
			return outcome{text: s, second: n, e: e}
		}, "\x02" + nought + "\x07" + strings.Repeat("\xff", 8), api.Reply{Kind: api.AskFetch, End: 6, Data: "any"}, outcome{text: "any", second: 6}},
		{"Time", api.AskTime, func(a client.Asker) outcome {
			n, e := client.New(a).Time(-2)
			return outcome{first: n, e: e}
		}, "\x03" + strings.Repeat("\xff", 7) + "\xfe", api.Reply{Kind: api.AskTime, Offset: 5}, outcome{first: 5}},
		{"Flush", api.AskFlush, func(a client.Asker) outcome {
			n, e := client.New(a).Flush()
			return outcome{second: n, e: e}
		}, "\x04", api.Reply{Kind: api.AskFlush, End: 6}, outcome{second: 6}},
		{"Trim", api.AskTrim, func(a client.Asker) outcome {
			n, e := client.New(a).Trim(9)
			return outcome{first: n, e: e}
		}, "\x05" + nought + "\x09", api.Reply{Kind: api.AskTrim, Offset: 5}, outcome{first: 5}},
		{"Bounds", api.AskBounds, func(a client.Asker) outcome {
			start, end, e := client.New(a).Bounds()
			return outcome{first: start, second: end, e: e}
		}, "\x06", api.Reply{Kind: api.AskBounds, Offset: 5, End: 6}, outcome{first: 5, second: 6}},
		{"Send", api.AskProduce, func(a client.Asker) outcome {
			n, e := client.NewProducer(a, 9, 8, 0).Send(recordsOf(1, 2), false)
			return outcome{first: n, e: e}
		}, "\x01\x00\x00\x00" + string([]byte{byte(len(sent))}) + sent, api.Reply{Kind: api.AskProduce, Offset: 5, Double: true}, outcome{first: 5}},
		{"Next", api.AskFetch, func(a client.Asker) outcome {
			rows, e := client.NewConsumer(a, 7, 3).Next()
			return outcome{rows: toldRows(rows), e: e}
		}, "\x02" + nought + "\x07" + nought + "\x03", api.Reply{Kind: api.AskFetch, End: 6, Data: data}, outcome{rows: "[7:5 8:3]"}},
		{"All", api.AskFetch, func(a client.Asker) outcome {
			rows, e := client.NewConsumer(a, 7, 3).All(1)
			return outcome{rows: toldRows(rows), e: e}
		}, "\x02" + nought + "\x07" + nought + "\x03", api.Reply{Kind: api.AskFetch, End: 6, Data: data}, outcome{rows: "[7:5 8:3]"}},
	}
}

// nothing is the outcome of a call that answers e alone.
func (c call) nothing(e api.Errno) outcome {
	o := outcome{e: e}
	if c.want.rows != "" {
		o.rows = "[]"
	}
	return o
}
