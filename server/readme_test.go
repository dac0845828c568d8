package server_test

import (
	"testing"

	"gantry/api"
	"gantry/batch"
	"gantry/disk"
	"gantry/plog"
	"gantry/proto"
	"gantry/server"
)

// TestReadmeExample runs what README.md shows.
func TestReadmeExample(t *testing.T) {
	l, e := plog.Open(disk.New(10000), api.Config{Segment: 1000, Frame: 1000, Plain: 1000, Every: 100, Room: 10000})
	if e != api.OK {
		t.Fatal(e)
	}
	s := server.New(l)
	f, _ := batch.Encode(api.Batch{Producer: -1, Seq: -1, Records: []api.Record{{Time: 5}, {Time: 9}}})
	q, e := proto.Ask(api.Request{Kind: api.AskProduce, Data: f})
	a := s.Ask(q)
	if a != "\x01\x00\x00\x00\x00\x00"+nought+"\x00" || e != api.OK {
		t.Errorf("%s, %d", short(a), e)
	}
	if a := s.Ask("no request"); a != refused {
		t.Errorf("%s", short(a))
	}
	for _, c := range []struct {
		r    api.Request
		want api.Reply
	}{
		{api.Request{Kind: api.AskTime, Time: 6}, api.Reply{Kind: api.AskTime, Offset: 1}},
		{api.Request{Kind: api.AskFetch, Offset: 1}, api.Reply{Kind: api.AskFetch, End: 2, Data: f}},
		{api.Request{Kind: api.AskTrim, Offset: 3}, api.Reply{Kind: api.AskTrim, Err: api.ErrOffset}},
		{api.Request{Kind: api.AskFlush}, api.Reply{Kind: api.AskFlush, End: 2}},
		{api.Request{Kind: 9}, api.Reply{Err: api.ErrRequest}},
	} {
		if r := s.Do(c.r); r != c.want {
			t.Errorf("%s: %s", toldAsk(c.r), toldReply(r))
		}
	}
	if n := s.Asked(); n != [7]int{2, 1, 1, 1, 1, 1, 0} {
		t.Errorf("%d", n)
	}
	if s.Log().End() != 2 {
		t.Errorf("%d", s.Log().End())
	}
}
