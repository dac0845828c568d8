package client_test

import (
	"testing"

	"gantry/api"
	"gantry/client"
	"gantry/disk"
	"gantry/plog"
	"gantry/server"
)

// TestReadmeExample runs what README.md shows.
func TestReadmeExample(t *testing.T) {
	l, e := plog.Open(disk.New(10000), api.Config{Segment: 1000, Frame: 1000, Plain: 1000, Every: 100, Room: 10000})
	if e != api.OK {
		t.Fatal(e)
	}
	s := server.New(l)
	p := client.NewProducer(s, 7, 0, 2)
	if base, e := p.Send([]api.Record{{Time: 1}, {Time: 2}}, false); base != 0 || e != api.OK {
		t.Errorf("%d, %d", base, e)
	}
	if base, e := p.Send([]api.Record{{Time: 3}}, true); base != 2 || e != api.OK || p.Seq() != 3 {
		t.Errorf("%d, %d, next %d", base, e, p.Seq())
	}
	c := client.NewConsumer(s, 1, 500)
	if rows, e := c.Next(); toldRows(rows) != "[1:2 2:3]" || e != api.OK {
		t.Errorf("%s, %d", toldRows(rows), e)
	}
	if rows, e := c.Next(); len(rows) != 0 || e != api.OK || c.At() != 3 {
		t.Errorf("%s, %d, at %d", toldRows(rows), e, c.At())
	}
	if rows, e := client.NewConsumer(s, 0, 0).All(2); toldRows(rows) != "[0:1 1:2 2:3]" || e != api.OK {
		t.Errorf("%s, %d", toldRows(rows), e)
	}
	if start, end, e := client.New(s).Bounds(); start != 0 || end != 3 || e != api.OK {
		t.Errorf("%d, %d, %d", start, end, e)
	}
	if _, e := client.New(s).Trim(4); e != api.ErrOffset {
		t.Errorf("%d", e)
	}
	if _, e := client.New(nil).Flush(); e != api.ErrReply {
		t.Errorf("%d", e)
	}
}
