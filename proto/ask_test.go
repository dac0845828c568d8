package proto_test

import (
	"math"
	"strings"
	"testing"

	"gantry/api"
	"gantry/proto"
)

func TestAskExamples(t *testing.T) {
	for _, c := range []struct {
		r api.Request
		s string
	}{
		{api.Request{Kind: api.AskProduce, Data: "ab"}, "\x01\x00\x00\x00\x02ab"},
		{api.Request{Kind: api.AskProduce}, "\x01\x00\x00\x00\x00"},
		{api.Request{Kind: api.AskFetch, Offset: 1, Most: -1}, "\x02" + nought + "\x01\xff\xff\xff\xff\xff\xff\xff\xff"},
		{api.Request{Kind: api.AskFetch, Offset: math.MinInt64, Most: math.MaxInt}, "\x02\x80" + nought + "\x7f\xff\xff\xff\xff\xff\xff\xff"},
		{api.Request{Kind: api.AskTime, Time: -2}, "\x03\xff\xff\xff\xff\xff\xff\xff\xfe"},
		{api.Request{Kind: api.AskFlush}, "\x04"},
		{api.Request{Kind: api.AskTrim, Offset: 0x0102030405060708}, "\x05\x01\x02\x03\x04\x05\x06\x07\x08"},
		{api.Request{Kind: api.AskBounds}, "\x06"},
	} {
		if s, e := proto.Ask(c.r); s != c.s || e != api.OK {
			t.Errorf("P17.1: Ask(%s): %s, %d", toldAsk(c.r), short(s), e)
		}
		if r, e := proto.ReadAsk(c.s); r != c.r || e != api.OK {
			t.Errorf("P17.2: ReadAsk(%s): %s, %d", short(c.s), toldAsk(r), e)
		}
	}
}

// TestAskPassesOver: fields of other kinds are not written, and come back as zero.
func TestAskPassesOver(t *testing.T) {
	for _, c := range []struct {
		kind api.Ask
		s    string
		read api.Request
	}{
		{api.AskProduce, "\x01\x00\x00\x00\x01d", api.Request{Kind: api.AskProduce, Data: "d"}},
		{api.AskFetch, "\x02" + nought + "\x02" + nought + "\x04", api.Request{Kind: api.AskFetch, Offset: 2, Most: 4}},
		{api.AskTime, "\x03" + nought + "\x03", api.Request{Kind: api.AskTime, Time: 3}},
		{api.AskFlush, "\x04", api.Request{Kind: api.AskFlush}},
		{api.AskTrim, "\x05" + nought + "\x02", api.Request{Kind: api.AskTrim, Offset: 2}},
		{api.AskBounds, "\x06", api.Request{Kind: api.AskBounds}},
	} {
		full := api.Request{Kind: c.kind, Data: "d", Offset: 2, Time: 3, Most: 4}
		if s, e := proto.Ask(full); s != c.s || e != api.OK {
			t.Errorf("P17.1: Ask(%s): %s, %d", toldAsk(full), short(s), e)
		}
		if r, e := proto.ReadAsk(c.s); r != c.read || e != api.OK {
			t.Errorf("P17.2: ReadAsk(%s): %s, %d", short(c.s), toldAsk(r), e)
		}
	}
}

func TestAskEdges(t *testing.T) {
	for _, kind := range goodKinds() {
		for _, v := range numbers() {
			expectAsk(t, fullAsk(kind, v, "data"))
		}
		for _, data := range texts() {
			expectAsk(t, fullAsk(kind, 5, data))
		}
	}
}

func TestAskOfNoKind(t *testing.T) {
	more := strings.Repeat("m", api.MostFrame+1)
	for _, kind := range append(wrongKinds(), 0) {
		for _, r := range []api.Request{{Kind: kind}, fullAsk(kind, 5, "data"), {Kind: kind, Data: more}} {
			if s, e := proto.Ask(r); s != "" || e != api.ErrKind {
				t.Errorf("P17.1: Ask(%s): %s, %d", toldAsk(r), short(s), e)
			}
		}
	}
}

// TestAskOfMuchData: Data may have MostFrame bytes and no more, but where it isn't written it may have any number.
func TestAskOfMuchData(t *testing.T) {
	most := strings.Repeat("m", api.MostFrame)
	expectAsk(t, api.Request{Kind: api.AskProduce, Data: most[1:]})
	expectAsk(t, api.Request{Kind: api.AskProduce, Data: most})
	for _, more := range []string{most + "m", most + most} {
		if s, e := proto.Ask(api.Request{Kind: api.AskProduce, Data: more}); s != "" || e != api.ErrLong {
			t.Errorf("P17.1: Ask of %d bytes: %s, %d", len(more), short(s), e)
		}
		for _, kind := range goodKinds()[1:] {
			expectAsk(t, fullAsk(kind, 5, more))
		}
	}
}

func TestReadAskTable(t *testing.T) {
	most := strings.Repeat("m", api.MostFrame)
	for _, c := range []struct {
		name, s string
		e       api.Errno
	}{
		{"nothing", "", api.ErrShort},
		{"kind 0", "\x00", api.ErrKind},
		{"kind 7", "\x07", api.ErrKind},
		{"kind 7 and more", "\x07\x00\x00\x00\x02ab", api.ErrKind},
		{"kind 255", "\xff", api.ErrKind},
		{"produce: no length", "\x01", api.ErrShort},
		{"produce: half a length", "\x01\x00\x00\x00", api.ErrShort},
		{"produce: half a length, great already", "\x01\xff\xff\xff", api.ErrShort},
		{"produce: one missing", "\x01\x00\x00\x00\x03ab", api.ErrLong},
		{"produce: all missing", "\x01\x00\x00\x00\x01", api.ErrLong},
		{"produce: MostFrame, all missing", "\x01\x01\x00\x00\x00", api.ErrLong},
		{"produce: MostFrame, one missing", "\x01\x01\x00\x00\x00" + most[1:], api.ErrLong},
		{"produce: MostFrame", "\x01\x01\x00\x00\x00" + most, api.OK},
		{"produce: MostFrame, one left", "\x01\x01\x00\x00\x00" + most + "m", api.ErrLeft},
		{"produce: above MostFrame, all there", "\x01\x01\x00\x00\x01" + most + "m", api.ErrLong},
		{"produce: above MostFrame, more there", "\x01\x01\x00\x00\x01" + most + "mm", api.ErrLong},
		{"produce: above MostFrame, missing", "\x01\x01\x00\x00\x01", api.ErrLong},
		{"produce: 2^31", "\x01\x80\x00\x00\x00ab", api.ErrLong},
		{"produce: 2^32 - 1", "\x01\xff\xff\xff\xffab", api.ErrLong},
		{"produce: one left", "\x01\x00\x00\x00\x00x", api.ErrLeft},
		{"produce: many left", "\x01\x00\x00\x00\x02ab" + nought, api.ErrLeft},
		{"fetch: nothing", "\x02", api.ErrShort},
		{"fetch: half an offset", "\x02" + nought, api.ErrShort},
		{"fetch: no most", "\x02" + nought + "\x01", api.ErrShort},
		{"fetch: half a most", "\x02" + nought + "\x01" + nought, api.ErrShort},
		{"fetch: one left", "\x02" + nought + "\x01" + nought + "\x01\x00", api.ErrLeft},
		{"time: half a time", "\x03" + nought, api.ErrShort},
		{"time: one left", "\x03" + nought + "\x01\x00", api.ErrLeft},
		{"flush: one left", "\x04\x00", api.ErrLeft},
		{"flush: many left", "\x04" + nought, api.ErrLeft},
		{"trim: half an offset", "\x05" + nought, api.ErrShort},
		{"trim: one left", "\x05" + nought + "\x01\xff", api.ErrLeft},
		{"bounds: one left", "\x06\x06", api.ErrLeft},
	} {
		if r, e := proto.ReadAsk(c.s); e != c.e || e != api.OK && r != (api.Request{}) {
			t.Errorf("P17.2: %s: ReadAsk(%s): %s, %d, want %d", c.name, short(c.s), toldAsk(r), e, c.e)
		}
		expectReadAsk(t, c.s)
	}
}
