package proto_test

import (
	"math"
	"strings"
	"testing"

	"gantry/api"
	"gantry/proto"
)

func TestReplyExamples(t *testing.T) {
	fine := "\x00\x00\x00\x00"
	for _, c := range []struct {
		r api.Reply
		s string
	}{
		{api.Reply{Kind: api.AskProduce, Offset: 5}, "\x01" + fine + "\x00" + nought + "\x05"},
		{api.Reply{Kind: api.AskProduce, Double: true, Offset: -1}, "\x01" + fine + "\x01\xff\xff\xff\xff\xff\xff\xff\xff"},
		{api.Reply{Kind: api.AskFetch, End: 3}, "\x02" + fine + nought + "\x03" + "\x00\x00\x00\x00"},
		{api.Reply{Kind: api.AskFetch, End: 3, Data: "ab"}, "\x02" + fine + nought + "\x03" + "\x00\x00\x00\x02ab"},
		{api.Reply{Kind: api.AskTime, Offset: math.MaxInt64}, "\x03" + fine + "\x7f\xff\xff\xff\xff\xff\xff\xff"},
		{api.Reply{Kind: api.AskFlush, End: math.MinInt64}, "\x04" + fine + "\x80" + nought},
		{api.Reply{Kind: api.AskTrim, Offset: 0x0102030405060708}, "\x05" + fine + "\x01\x02\x03\x04\x05\x06\x07\x08"},
		{api.Reply{Kind: api.AskBounds, Offset: 1, End: 2}, "\x06" + fine + nought + "\x01" + nought + "\x02"},
		{api.Reply{Err: api.ErrRequest}, "\x00\x00\x00\x00\x5a"},
		{api.Reply{Kind: api.AskTrim, Err: api.ErrOffset}, "\x05\x00\x00\x00\x3c"},
		{api.Reply{Kind: api.AskFlush, Err: math.MaxInt32}, "\x04\x7f\xff\xff\xff"},
		{api.Reply{Err: math.MaxInt32}, "\x00\x7f\xff\xff\xff"},
	} {
		if s, e := proto.Reply(c.r); s != c.s || e != api.OK {
			t.Errorf("P17.1: Reply(%s): %s, %d", toldReply(c.r), short(s), e)
		}
		if r, e := proto.ReadReply(c.s); r != c.r || e != api.OK {
			t.Errorf("P17.3: ReadReply(%s): %s, %d", short(c.s), toldReply(r), e)
		}
	}
}

// TestReplyPassesOver: fields of other kinds are not written, and come back as zero; beside an error all are.
func TestReplyPassesOver(t *testing.T) {
	fine := "\x00\x00\x00\x00"
	for _, c := range []struct {
		kind api.Ask
		s    string
		read api.Reply
	}{
		{api.AskProduce, "\x01" + fine + "\x01" + nought + "\x02", api.Reply{Kind: api.AskProduce, Double: true, Offset: 2}},
		{api.AskFetch, "\x02" + fine + nought + "\x03" + "\x00\x00\x00\x01d", api.Reply{Kind: api.AskFetch, End: 3, Data: "d"}},
		{api.AskTime, "\x03" + fine + nought + "\x02", api.Reply{Kind: api.AskTime, Offset: 2}},
		{api.AskFlush, "\x04" + fine + nought + "\x03", api.Reply{Kind: api.AskFlush, End: 3}},
		{api.AskTrim, "\x05" + fine + nought + "\x02", api.Reply{Kind: api.AskTrim, Offset: 2}},
		{api.AskBounds, "\x06" + fine + nought + "\x02" + nought + "\x03", api.Reply{Kind: api.AskBounds, Offset: 2, End: 3}},
	} {
		full := api.Reply{Kind: c.kind, Double: true, Offset: 2, End: 3, Data: "d"}
		if s, e := proto.Reply(full); s != c.s || e != api.OK {
			t.Errorf("P17.1: Reply(%s): %s, %d", toldReply(full), short(s), e)
		}
		if r, e := proto.ReadReply(c.s); r != c.read || e != api.OK {
			t.Errorf("P17.3: ReadReply(%s): %s, %d", short(c.s), toldReply(r), e)
		}
		full.Err = api.ErrFull
		bare := string(rune(c.kind)) + "\x00\x00\x00\x02"
		if s, e := proto.Reply(full); s != bare || e != api.OK {
			t.Errorf("P17.1: Reply(%s): %s, %d", toldReply(full), short(s), e)
		}
		if r, e := proto.ReadReply(bare); r != (api.Reply{Kind: c.kind, Err: api.ErrFull}) || e != api.OK {
			t.Errorf("P17.3: ReadReply(%s): %s, %d", short(bare), toldReply(r), e)
		}
	}
	if s, e := proto.Reply(fullReply(0, api.ErrRequest, true, 5, "data")); s != "\x00\x00\x00\x00\x5a" || e != api.OK {
		t.Errorf("P17.1: Reply of kind 0: %s, %d", short(s), e)
	}
}

func TestReplyEdges(t *testing.T) {
	for _, kind := range append(goodKinds(), 0) {
		for _, double := range []bool{false, true} {
			for _, v := range numbers() {
				expectReply(t, fullReply(kind, api.OK, double, v, "data"))
				expectReply(t, fullReply(kind, api.ErrClosed, double, v, "data"))
			}
			for _, e := range append(goodErrors(), wrongErrors()...) {
				expectReply(t, fullReply(kind, e, double, 5, "data"))
			}
			for _, data := range texts() {
				expectReply(t, fullReply(kind, api.OK, double, 5, data))
				expectReply(t, fullReply(kind, api.ErrFull, double, 5, data))
			}
		}
	}
}

// TestReplyOfNoKind: a wrong kind is told ahead of a wrong error; kind 0 is wrong just if the error is OK.
func TestReplyOfNoKind(t *testing.T) {
	for _, kind := range wrongKinds() {
		for _, err := range append(goodErrors(), wrongErrors()...) {
			if s, e := proto.Reply(fullReply(kind, err, true, 5, "data")); s != "" || e != api.ErrKind {
				t.Errorf("P17.1: Reply of kind %d, error %d: %s, %d", kind, err, short(s), e)
			}
		}
	}
	for _, r := range []api.Reply{{}, fullReply(0, api.OK, true, 5, "data")} {
		if s, e := proto.Reply(r); s != "" || e != api.ErrKind {
			t.Errorf("P17.1: Reply(%s): %s, %d", toldReply(r), short(s), e)
		}
	}
}

func TestReplyOfNoError(t *testing.T) {
	for _, kind := range append(goodKinds(), 0) {
		for _, err := range wrongErrors() {
			for _, r := range []api.Reply{{Kind: kind, Err: err}, fullReply(kind, err, true, 5, "data")} {
				if s, e := proto.Reply(r); s != "" || e != api.ErrRange {
					t.Errorf("P17.1: Reply(%s): %s, %d", toldReply(r), short(s), e)
				}
			}
		}
	}
}

// TestReplyOfMuchData: a reply's Data may be greater than any request's.
func TestReplyOfMuchData(t *testing.T) {
	data := strings.Repeat("m", api.MostFrame+1)
	for _, kind := range append(goodKinds(), 0) {
		expectReply(t, fullReply(kind, api.OK, true, 5, data))
		expectReply(t, fullReply(kind, api.ErrFull, true, 5, data))
	}
}

func TestReadReplyTable(t *testing.T) {
	fine := "\x00\x00\x00\x00"
	for _, c := range []struct {
		name, s string
		e       api.Errno
	}{
		{"nothing", "", api.ErrShort},
		{"kind 7", "\x07", api.ErrKind},
		{"kind 7 and an error", "\x07\x00\x00\x00\x01", api.ErrKind},
		{"kind 7 and an error below 0", "\x07\xff\xff\xff\xff", api.ErrKind},
		{"kind 255", "\xff\x00\x00", api.ErrKind},
		{"kind 0, no error", "\x00", api.ErrShort},
		{"kind 0, half an error", "\x00\x00\x00\x00", api.ErrShort},
		{"kind 0, OK", "\x00\x00\x00\x00\x00", api.ErrKind},
		{"kind 0, OK and more", "\x00\x00\x00\x00\x00\x00", api.ErrKind},
		{"kind 0, below 0", "\x00\xff\xff\xff\xff", api.ErrRange},
		{"kind 0, one left", "\x00\x00\x00\x00\x5a\x00", api.ErrLeft},
		{"no error", "\x01", api.ErrShort},
		{"half an error", "\x01\x00\x00\x00", api.ErrShort},
		{"half an error below 0", "\x01\xff\xff\xff", api.ErrShort},
		{"least error", "\x01\x80\x00\x00\x00", api.ErrRange},
		{"error -1", "\x04\xff\xff\xff\xff", api.ErrRange},
		{"error -1 and more", "\x04\xff\xff\xff\xff\x00", api.ErrRange},
		{"greatest error", "\x01\x7f\xff\xff\xff", api.OK},
		{"an error, one left", "\x05\x00\x00\x00\x3c\x00", api.ErrLeft},
		{"an error, fields behind", "\x05\x00\x00\x00\x3c" + nought + "\x01", api.ErrLeft},
		{"an error, a wrong Double behind", "\x01\x00\x00\x00\x3c\x02", api.ErrLeft},
		{"produce: no Double", "\x01" + fine, api.ErrShort},
		{"produce: Double 2", "\x01" + fine + "\x02" + nought + "\x00", api.ErrReply},
		{"produce: Double 2 and nothing behind", "\x01" + fine + "\x02", api.ErrReply},
		{"produce: Double 2 and more", "\x01" + fine + "\x02" + nought + "\x00\x00", api.ErrReply},
		{"produce: Double 255", "\x01" + fine + "\xff" + nought + "\x00", api.ErrReply},
		{"produce: Double 128", "\x01" + fine + "\x80" + nought + "\x00", api.ErrReply},
		{"produce: no offset", "\x01" + fine + "\x01", api.ErrShort},
		{"produce: half an offset", "\x01" + fine + "\x00" + nought, api.ErrShort},
		{"produce: one left", "\x01" + fine + "\x00" + nought + "\x05\x00", api.ErrLeft},
		{"fetch: no end", "\x02" + fine, api.ErrShort},
		{"fetch: half an end", "\x02" + fine + nought, api.ErrShort},
		{"fetch: no length", fetched(""), api.ErrShort},
		{"fetch: half a length", fetched("\xff\xff\xff"), api.ErrShort},
		{"fetch: one missing", fetched("\x00\x00\x00\x03") + "ab", api.ErrLong},
		{"fetch: all missing", fetched("\x00\x00\x00\x01"), api.ErrLong},
		{"fetch: MostFile, missing", fetched("\x40\x00\x00\x00") + "ab", api.ErrLong},
		{"fetch: above MostFile, missing", fetched("\x40\x00\x00\x01") + "ab", api.ErrLong},
		{"fetch: 2^31", fetched("\x80\x00\x00\x00") + "ab", api.ErrLong},
		{"fetch: 2^32 - 1", fetched("\xff\xff\xff\xff") + "ab", api.ErrLong},
		{"fetch: one left", fetched("\x00\x00\x00\x01") + "ab", api.ErrLeft},
		{"fetch: of none, one left", fetched("\x00\x00\x00\x00") + "a", api.ErrLeft},
		{"fetch: above MostFrame", fetched("\x01\x00\x00\x01") + strings.Repeat("m", api.MostFrame+1), api.OK},
		{"time: half an offset", "\x03" + fine + nought, api.ErrShort},
		{"time: one left", "\x03" + fine + nought + "\x01\x00", api.ErrLeft},
		{"flush: no end", "\x04" + fine, api.ErrShort},
		{"flush: one left", "\x04" + fine + nought + "\x01\x00", api.ErrLeft},
		{"trim: half an offset", "\x05" + fine + nought, api.ErrShort},
		{"trim: one left", "\x05" + fine + nought + "\x01\x00", api.ErrLeft},
		{"bounds: no end", "\x06" + fine + nought + "\x01", api.ErrShort},
		{"bounds: half an end", "\x06" + fine + nought + "\x01" + nought, api.ErrShort},
		{"bounds: one left", "\x06" + fine + nought + "\x01" + nought + "\x02\x00", api.ErrLeft},
	} {
		if r, e := proto.ReadReply(c.s); e != c.e || e != api.OK && r != (api.Reply{}) {
			t.Errorf("P17.3: %s: ReadReply(%s): %s, %d, want %d", c.name, short(c.s), toldReply(r), e, c.e)
		}
		expectReadReply(t, c.s)
	}
}
