package client_test

import (
	"math"
	"testing"

	"gantry/api"
	"gantry/client"
	"gantry/proto"
)

// TestExamples is the chapter's examples.
func TestExamples(t *testing.T) {
	a := &told{}
	if start, end, e := client.New(a).Bounds(); start != 0 || end != 0 || e != api.ErrReply {
		t.Errorf("Examples: Bounds: %d, %d, %d", start, end, e)
	}
	a = &told{}
	p := client.NewProducer(a, 7, 5, 2)
	if n, e := p.Send(recordsOf(1), false); n != 0 || e != api.ErrReply || len(a.asked) != 3 || p.Seq() != 5 {
		t.Errorf("Examples: Send: %d, %d, asked %d times, next %d", n, e, len(a.asked), p.Seq())
	}
}

// TestCalls: each call asks one request, and answers of a good reply what its promise says.
func TestCalls(t *testing.T) {
	for _, c := range calls(t) {
		a := always(form(t, c.reply), 9)
		if got := c.do(a); got != c.want {
			t.Errorf("P20.1: %s: %+v, want %+v", c.name, got, c.want)
		}
		if len(a.asked) != 1 || a.asked[0] != c.asked {
			t.Errorf("P20.1: %s asked %x, want %x", c.name, a.asked, c.asked)
		}
	}
}

// TestReplyErrors: where the reply's Err isn't OK, that is the answer, ErrReply too, and nothing is asked again.
func TestReplyErrors(t *testing.T) {
	for _, c := range calls(t) {
		for _, e := range []api.Errno{1, api.ErrFull, api.ErrShort, api.ErrOffset, api.ErrDouble, api.ErrGap, api.ErrRequest, api.ErrReply, api.ErrClosed, 12345, math.MaxInt32} {
			a := always(form(t, api.Reply{Kind: c.kind, Err: e}), 9)
			if got := c.do(a); got != c.nothing(e) {
				t.Errorf("Words: %s with the error %d: %+v", c.name, e, got)
			}
			if len(a.asked) != 1 {
				t.Errorf("Words: %s with the error %d asked %d times", c.name, e, len(a.asked))
			}
		}
	}
}

// failures answers replies by which a request of that kind fails, whatever it is.
func failures(t *testing.T, kind api.Ask, good string) []string {
	t.Helper()
	out := []string{"", "junk", "\xff", good + "x", good + good, form(t, api.Reply{Err: api.ErrRequest}), form(t, api.Reply{Err: api.ErrReply}), string([]byte{byte(kind)}) + "\xff\xff\xff\xff", string([]byte{byte(kind)}) + "\x80\x00\x00\x00"}
	for n := range len(good) {
		out = append(out, good[:n])
	}
	for other := api.AskProduce; other <= api.AskBounds; other++ {
		if other != kind {
			out = append(out, form(t, api.Reply{Kind: other, Data: "d"}), form(t, api.Reply{Kind: other, Err: api.ErrOffset}), string([]byte{byte(other)})+good[1:])
		}
	}
	return out
}

// TestFails: what can't be read as a reply, or is one to a request of another kind, is ErrReply, and all else is zero.
func TestFails(t *testing.T) {
	for _, c := range calls(t) {
		for _, reply := range failures(t, c.kind, form(t, c.reply)) {
			a := always(reply, 9)
			if got := c.do(a); got != c.nothing(api.ErrReply) {
				t.Errorf("Words: %s with the reply %s: %+v", c.name, short(reply), got)
			}
			if len(a.asked) != 1 {
				t.Errorf("Words: %s with the reply %s asked %d times", c.name, short(reply), len(a.asked))
			}
		}
	}
}

// TestHarmedReplies: whatever becomes of one byte of a reply, a call fails just if layer 17 doesn't read a reply of its kind.
func TestHarmedReplies(t *testing.T) {
	for _, c := range calls(t) {
		good := []byte(form(t, c.reply))
		for n := range good {
			for turn := 1; turn < 256; turn += 7 {
				good[n] ^= byte(turn)
				r, e := proto.ReadReply(string(good))
				got := c.do(always(string(good), 1))
				switch {
				case e != api.OK || r.Kind != c.kind:
					if got != c.nothing(api.ErrReply) {
						t.Errorf("Words: %s with the reply %x: %+v", c.name, good, got)
					}
				case r.Err != api.OK:
					if got != c.nothing(r.Err) {
						t.Errorf("Words: %s with the reply %x: %+v", c.name, good, got)
					}
				case c.want.rows == "" && got.e != api.OK:
					t.Errorf("P20.1: %s with the reply %x: %+v", c.name, good, got)
				}
				good[n] ^= byte(turn)
			}
		}
	}
}

// TestNumbers: the numbers of a request and of a reply go through as they are, whatever they are.
func TestNumbers(t *testing.T) {
	numbers := []int64{math.MinInt64, -1, 0, 1, api.MostOffset - 1, api.MostOffset, math.MaxInt64}
	for i, n := range numbers {
		m := numbers[(i+3)%len(numbers)]
		a := &told{replies: []string{
			form(t, api.Reply{Kind: api.AskProduce, Offset: m}), form(t, api.Reply{Kind: api.AskFetch, End: m}), form(t, api.Reply{Kind: api.AskTime, Offset: m}),
			form(t, api.Reply{Kind: api.AskFlush, End: m}), form(t, api.Reply{Kind: api.AskTrim, Offset: m}), form(t, api.Reply{Kind: api.AskBounds, Offset: m, End: n}),
		}}
		c := client.New(a)
		if got, double, e := c.Produce(""); got != m || double || e != api.OK || a.asked[0] != asking(t, api.Request{Kind: api.AskProduce}) {
			t.Errorf("P20.1: Produce: %d, %v, %d, asked %x", got, double, e, a.asked[0])
		}
		if s, got, e := c.Fetch(n, int(m)); s != "" || got != m || e != api.OK || a.asked[1] != asking(t, api.Request{Kind: api.AskFetch, Offset: n, Most: int(m)}) {
			t.Errorf("P20.1: Fetch: %q, %d, %d, asked %x", s, got, e, a.asked[1])
		}
		if got, e := c.Time(n); got != m || e != api.OK || a.asked[2] != asking(t, api.Request{Kind: api.AskTime, Time: n}) {
			t.Errorf("P20.1: Time: %d, %d, asked %x", got, e, a.asked[2])
		}
		if got, e := c.Flush(); got != m || e != api.OK || a.asked[3] != asking(t, api.Request{Kind: api.AskFlush}) {
			t.Errorf("P20.1: Flush: %d, %d, asked %x", got, e, a.asked[3])
		}
		if got, e := c.Trim(n); got != m || e != api.OK || a.asked[4] != asking(t, api.Request{Kind: api.AskTrim, Offset: n}) {
			t.Errorf("P20.1: Trim: %d, %d, asked %x", got, e, a.asked[4])
		}
		if start, end, e := c.Bounds(); start != m || end != n || e != api.OK || a.asked[5] != asking(t, api.Request{Kind: api.AskBounds}) {
			t.Errorf("P20.1: Bounds: %d, %d, %d, asked %x", start, end, e, a.asked[5])
		}
	}
}
