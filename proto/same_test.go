package proto_test

import (
	"strings"
	"testing"

	"gantry/api"
	"gantry/proto"
)

// someAsks answers requests of every kind, of none too, that differ from one another in one field each.
func someAsks() []api.Request {
	var out []api.Request
	for _, kind := range append(goodKinds(), 0, 7, 257) {
		out = append(out,
			api.Request{Kind: kind},
			api.Request{Kind: kind, Data: "a"},
			api.Request{Kind: kind, Data: "b"},
			api.Request{Kind: kind, Offset: 1},
			api.Request{Kind: kind, Time: 1},
			api.Request{Kind: kind, Most: 1},
		)
	}
	return out
}

func TestSameAsk(t *testing.T) {
	for _, a := range someAsks() {
		for _, b := range someAsks() {
			s, e := chapterAsk(a)
			u, f := chapterAsk(b)
			want := e == api.OK && f == api.OK && s == u
			if got := proto.SameAsk(a, b); got != want {
				t.Errorf("P17.4: SameAsk(%s, %s): %t", toldAsk(a), toldAsk(b), got)
			}
		}
	}
}

func TestSameAskOfMuchData(t *testing.T) {
	most := api.Request{Kind: api.AskProduce, Data: strings.Repeat("m", api.MostFrame)}
	other := api.Request{Kind: api.AskProduce, Data: most.Data[1:] + "n"}
	more := api.Request{Kind: api.AskProduce, Data: most.Data + "m"}
	if !proto.SameAsk(most, most) || proto.SameAsk(most, other) || proto.SameAsk(more, more) || proto.SameAsk(most, more) || proto.SameAsk(more, most) {
		t.Error("P17.4: SameAsk of MostFrame bytes and of more")
	}
	most.Kind, more.Kind = api.AskBounds, api.AskBounds
	if !proto.SameAsk(most, more) {
		t.Error("P17.4: SameAsk of what isn't written")
	}
}

// someReplies answers replies of every kind, of none too, that differ from one another in one field each.
func someReplies() []api.Reply {
	var out []api.Reply
	for _, kind := range append(goodKinds(), 0, 7, 257) {
		for _, e := range []api.Errno{api.OK, api.ErrFull, api.ErrOffset, -1, 1 << 31, 1 << 32} {
			out = append(out,
				api.Reply{Kind: kind, Err: e},
				api.Reply{Kind: kind, Err: e, Double: true},
				api.Reply{Kind: kind, Err: e, Offset: 1},
				api.Reply{Kind: kind, Err: e, End: 1},
				api.Reply{Kind: kind, Err: e, Data: "a"},
				api.Reply{Kind: kind, Err: e, Data: "b"},
			)
		}
	}
	return out
}

func TestSameReply(t *testing.T) {
	for _, a := range someReplies() {
		for _, b := range someReplies() {
			s, e := chapterReply(a)
			u, f := chapterReply(b)
			want := e == api.OK && f == api.OK && s == u
			if got := proto.SameReply(a, b); got != want {
				t.Errorf("P17.4: SameReply(%s, %s): %t", toldReply(a), toldReply(b), got)
			}
		}
	}
}
