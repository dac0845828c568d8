package client_test

import (
	"strings"
	"testing"

	"gantry/api"
	"gantry/client"
	"gantry/server"
)

// broken is an asker that doesn't answer, but panics.
type broken struct{ asked *int }

func (b broken) Ask(string) string {
	*b.asked++
	panic("broken")
}

// TestNobody: of a nil asker no bytes come back, and so of one that panics, and each call is ErrReply.
func TestNobody(t *testing.T) {
	for _, c := range calls(t) {
		if got := c.do(nil); got != c.nothing(api.ErrReply) {
			t.Errorf("P20.6: %s of a nil asker: %+v", c.name, got)
		}
		n := 0
		if got := c.do(broken{&n}); got != c.nothing(api.ErrReply) || n != 1 {
			t.Errorf("R1: %s of an asker that panics: %+v, asked %d times", c.name, got, n)
		}
		if got := c.do(broken{}); got != c.nothing(api.ErrReply) {
			t.Errorf("R1: %s of an asker that has nothing: %+v", c.name, got)
		}
		if got := c.do((*told)(nil)); got != c.nothing(api.ErrReply) {
			t.Errorf("R1: %s of a nil pointer: %+v", c.name, got)
		}
		if got := c.do((*server.Server)(nil)); got != c.nothing(api.ErrNone) {
			t.Errorf("P18.6: %s of a nil server, which answers: %+v", c.name, got)
		}
	}
	n := 0
	if _, e := client.NewProducer(broken{&n}, 7, 0, 4).Send(recordsOf(1), false); e != api.ErrReply || n != 5 {
		t.Errorf("P20.3: %d, asked %d times", e, n)
	}
}

// TestNobodyRefuses: what can't be asked is refused ahead of asking nobody.
func TestNobodyRefuses(t *testing.T) {
	long := strings.Repeat("z", api.MostFrame+1)
	for _, c := range []*client.Client{{}, client.New(nil)} {
		if n, double, e := c.Produce(long); n != 0 || double || e != api.ErrLong {
			t.Errorf("P20.1: Produce: %d, %v, %d", n, double, e)
		}
	}
	for _, p := range []*client.Producer{{}, client.NewProducer(nil, 0, 0, 3)} {
		if n, e := p.Send(nil, true); n != 0 || e != api.ErrNone || p.Seq() != 0 {
			t.Errorf("P20.3: Send: %d, %d, next %d", n, e, p.Seq())
		}
	}
}

// TestNil: nil objects look at nothing.
func TestNil(t *testing.T) {
	var c *client.Client
	if n, double, e := c.Produce(strings.Repeat("z", api.MostFrame+1)); n != 0 || double || e != api.ErrReply {
		t.Errorf("P20.6: Produce: %d, %v, %d", n, double, e)
	}
	if s, n, e := c.Fetch(1, 2); s != "" || n != 0 || e != api.ErrReply {
		t.Errorf("P20.6: Fetch: %q, %d, %d", s, n, e)
	}
	if n, e := c.Time(3); n != 0 || e != api.ErrReply {
		t.Errorf("P20.6: Time: %d, %d", n, e)
	}
	if n, e := c.Flush(); n != 0 || e != api.ErrReply {
		t.Errorf("P20.6: Flush: %d, %d", n, e)
	}
	if n, e := c.Trim(4); n != 0 || e != api.ErrReply {
		t.Errorf("P20.6: Trim: %d, %d", n, e)
	}
	if start, end, e := c.Bounds(); start != 0 || end != 0 || e != api.ErrReply {
		t.Errorf("P20.6: Bounds: %d, %d, %d", start, end, e)
	}
	var p *client.Producer
	for _, list := range [][]api.Record{nil, recordsOf(1), make([]api.Record, api.MostRecords+1)} {
		if n, e := p.Send(list, false); n != 0 || e != api.ErrReply || p.Seq() != 0 {
			t.Errorf("P20.6: Send: %d, %d, next %d", n, e, p.Seq())
		}
	}
	var r *client.Consumer
	if rows, e := r.Next(); rows != nil || e != api.ErrReply || r.At() != 0 {
		t.Errorf("P20.6: Next: %s, %d, at %d", toldRows(rows), e, r.At())
	}
	if rows, e := r.All(9); len(rows) != 0 || e != api.ErrReply || r.At() != 0 {
		t.Errorf("P20.6: All: %s, %d, at %d", toldRows(rows), e, r.At())
	}
}

// TestZero: the zero objects have a nil asker, the zero producer the id 0, and the zero consumer stands at 0.
func TestZero(t *testing.T) {
	var c client.Client
	if s, n, e := c.Fetch(1, 2); s != "" || n != 0 || e != api.ErrReply {
		t.Errorf("P20.6: Fetch: %q, %d, %d", s, n, e)
	}
	if start, end, e := c.Bounds(); start != 0 || end != 0 || e != api.ErrReply {
		t.Errorf("P20.6: Bounds: %d, %d, %d", start, end, e)
	}
	var p client.Producer
	if n, e := p.Send(recordsOf(1), false); n != 0 || e != api.ErrReply || p.Seq() != 0 {
		t.Errorf("P20.6: Send: %d, %d, next %d", n, e, p.Seq())
	}
	var r client.Consumer
	if rows, e := r.Next(); rows != nil || e != api.ErrReply || r.At() != 0 {
		t.Errorf("P20.6: Next: %s, %d, at %d", toldRows(rows), e, r.At())
	}
}
