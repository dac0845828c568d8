package proto_test

import (
	"strings"
	"testing"

	"gantry/api"
	"gantry/proto"
)

// fetched answers what stands ahead of a fetch's Data, whose length's four bytes are given.
func fetched(length string) string { return "\x02\x00\x00\x00\x00" + nought + "\x03" + length }

// lengthened answers head and n bytes behind it. It is laid down piece by piece: the text may have a gigabyte.
func lengthened(head string, n int) string {
	var out strings.Builder
	out.Grow(len(head) + n)
	out.WriteString(head)
	for piece := strings.Repeat("m", 1<<20); n > 0; n -= len(piece) {
		piece = piece[:min(len(piece), n)]
		out.WriteString(piece)
	}
	return out.String()
}

// TestMostFile: Data may have MostFile bytes and no more. One great text, the heads of two forms in front, serves for all of it.
func TestMostFile(t *testing.T) {
	if testing.Short() {
		t.Skip("it takes four gigabytes of memory")
	}
	right, wrong := fetched("\x40\x00\x00\x00"), fetched("\x40\x00\x00\x01")
	great := lengthened(right+wrong, api.MostFile+2)
	behind := great[len(right):]
	readMost(t, great[:len(right)+api.MostFile], api.OK)
	readMost(t, great[:len(right)+api.MostFile-1], api.ErrLong)
	readMost(t, great[:len(right)+api.MostFile+1], api.ErrLeft)
	readMost(t, behind[:len(wrong)+api.MostFile], api.ErrLong)
	readMost(t, behind[:len(wrong)+api.MostFile+1], api.ErrLong)
	readMost(t, behind[:len(wrong)+api.MostFile+2], api.ErrLong)
	writeTooMuch(t, great[:api.MostFile+1])
	writeMost(t, great[:api.MostFile], right)
}

// readMost holds what is read of a fetch's reply with some MostFile bytes of Data against the error that is wanted.
func readMost(t *testing.T, s string, want api.Errno) {
	t.Helper()
	r, e := proto.ReadReply(s)
	data := r.Data
	r.Data = ""
	if want == api.OK && (e != api.OK || r != (api.Reply{Kind: api.AskFetch, End: 3}) || len(data) != api.MostFile) {
		t.Errorf("P17.3: ReadReply of MostFile bytes: %s, %d", toldReply(r), e)
	}
	if want != api.OK && (e != want || r != (api.Reply{}) || data != "") {
		t.Errorf("P17.3: ReadReply(%s): %s, %d, want %d", short(s), toldReply(r), e, want)
	}
}

// writeTooMuch: Data above MostFile is refused behind all else that is wrong, and only where it would be written.
func writeTooMuch(t *testing.T, more string) {
	fetch := api.Reply{Kind: api.AskFetch, Data: more}
	expectReply(t, fetch)
	if proto.SameReply(fetch, fetch) {
		t.Error("P17.4: what can't be written is the same")
	}
	for _, kind := range append(goodKinds(), 0, 7) {
		for _, err := range []api.Errno{api.OK, api.ErrOffset, -1} {
			expectReply(t, fullReply(kind, err, true, 5, more))
		}
	}
}

func writeMost(t *testing.T, most, head string) {
	s, e := proto.Reply(api.Reply{Kind: api.AskFetch, End: 3, Data: most})
	if e != api.OK || len(s) != len(head)+len(most) || s[:len(head)] != head || s[len(head):] != most {
		t.Errorf("P17.1: Reply of MostFile bytes: %s, %d", short(s), e)
	}
}
