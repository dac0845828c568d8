package proto_test

import (
	"testing"

	"gantry/api"
	"gantry/proto"
)

// TestReadmeExample runs what README.md shows.
func TestReadmeExample(t *testing.T) {
	s, e := proto.Ask(api.Request{Kind: api.AskTrim, Offset: 7, Time: 9})
	if s != "\x05"+nought+"\x07" || e != api.OK {
		t.Errorf("%s, %d", short(s), e)
	}
	q, e := proto.ReadAsk(s)
	if q != (api.Request{Kind: api.AskTrim, Offset: 7}) || e != api.OK {
		t.Errorf("%s, %d", toldAsk(q), e)
	}
	if _, e := proto.ReadAsk(s[:8]); e != api.ErrShort {
		t.Errorf("%d", e)
	}
	if _, e := proto.ReadAsk(s + "x"); e != api.ErrLeft {
		t.Errorf("%d", e)
	}
	if s, e := proto.Ask(api.Request{Kind: 9}); s != "" || e != api.ErrKind {
		t.Errorf("%s, %d", short(s), e)
	}
	s, e = proto.Reply(api.Reply{Kind: api.AskTrim, Err: api.ErrOffset, Offset: 7})
	if s != "\x05\x00\x00\x00\x3c" || e != api.OK {
		t.Errorf("%s, %d", short(s), e)
	}
	r, e := proto.ReadReply(s)
	if r != (api.Reply{Kind: api.AskTrim, Err: api.ErrOffset}) || e != api.OK {
		t.Errorf("%s, %d", toldReply(r), e)
	}
	if !proto.SameReply(r, api.Reply{Kind: api.AskTrim, Err: api.ErrOffset, Offset: 8}) {
		t.Error("replies of one form")
	}
	if proto.SameAsk(q, api.Request{Kind: api.AskTrim, Offset: 8}) {
		t.Error("requests of two forms")
	}
}
