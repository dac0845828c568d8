package client_test

import (
	"math"
	"slices"
	"testing"

	"gantry/api"
	"gantry/batch"
	"gantry/client"
	"gantry/record"
)

func packed(t *testing.T, base int64, times ...int64) string {
	t.Helper()
	return encoded(t, api.Batch{Base: base, Packed: true, Producer: 4, Seq: 2, Records: recordsOf(times...)})
}

// harmed answers s with the byte at n changed.
func harmed(s string, n int) string {
	b := []byte(s)
	b[n] ^= 0x10
	return string(b)
}

// TestNext is P20.4's words upon one fetch each: what comes, where the consumer stands, its rows, and where it stands then.
func TestNext(t *testing.T) {
	three := frame(t, 5, 10, 20, 30)
	for _, c := range []struct {
		name string
		data string
		at   int64
		rows string
		next int64
	}{
		{"no frames", "", 5, "[]", 5},
		{"no frames, below all offsets", "", math.MinInt64, "[]", math.MinInt64},
		{"no frames, above all offsets", "", math.MaxInt64, "[]", math.MaxInt64},
		{"a frame from its beginning on", three, 5, "[5:10 6:20 7:30]", 8},
		{"a frame from within", three, 6, "[6:20 7:30]", 8},
		{"the last record", three, 7, "[7:30]", 8},
		{"one record", frame(t, 0, -1), 0, "[0:-1]", 1},
		{"frames", three + frame(t, 8, 1) + frame(t, 9, 2, 3), 7, "[7:30 8:1 9:2 10:3]", 11},
		{"packed frames, and ones of a producer", packed(t, 5, 1, 2) + frame(t, 7, 3) + packed(t, 8, 4), 6, "[6:2 7:3 8:4]", 9},
		{"the last offset of all", frame(t, api.MostOffset-2, 1) + frame(t, api.MostOffset-1, 2), api.MostOffset - 2, "[4611686018427387902:1 4611686018427387903:2]", api.MostOffset},
	} {
		a := always(fetched(t, c.data), 1)
		r := client.NewConsumer(a, c.at, 77)
		if r.At() != c.at {
			t.Errorf("P20.4: %s: it begins at %d", c.name, r.At())
		}
		rows, e := r.Next()
		if toldRows(rows) != c.rows || e != api.OK || r.At() != c.next {
			t.Errorf("P20.4: %s: %s, %d, at %d", c.name, toldRows(rows), e, r.At())
		}
		if len(a.asked) != 1 || a.asked[0] != asking(t, api.Request{Kind: api.AskFetch, Offset: c.at, Most: 77}) {
			t.Errorf("P20.4: %s: asked %x", c.name, a.asked)
		}
	}
}

// TestWrongFrames: what isn't frames that follow one another from where the consumer stands is ErrReply, and it stays.
func TestWrongFrames(t *testing.T) {
	three := frame(t, 5, 10, 20, 30)
	next := frame(t, 8, 1)
	mistimed, _ := batch.Rebase(three, math.MaxInt32)
	for _, c := range []struct {
		name string
		data string
		at   int64
	}{
		{"junk", "junk", 5},
		{"one byte", "\x00", 5},
		{"a head alone", three[:api.HeadSize], 5},
		{"a frame cut by a byte", three[:len(three)-1], 5},
		{"a frame and a byte", three + "\x00", 5},
		{"a frame and junk", three + "junk", 5},
		{"a frame and a head", three + next[:api.HeadSize], 5},
		{"a second frame cut by a byte", three + next[:len(next)-1], 5},
		{"a byte ahead of a frame", "\x00" + three, 5},
		{"a wrong sum", harmed(three, 14), 5},
		{"a wrong record", harmed(three, len(three)-1), 5},
		{"a wrong sum of the second", three + harmed(next, 14), 5},
		{"no frame's byte", harmed(three, 12), 5},
		{"a frame that begins behind At", three, 4},
		{"a frame that ends at At", three, 8},
		{"a frame that ends ahead of At", three, 9},
		{"a frame far behind At", mistimed, 5},
		{"a frame at an offset below all", three, -1},
		{"the least offset", three, math.MinInt64},
		{"the greatest offset", three, math.MaxInt64},
		{"the end of all offsets", frame(t, api.MostOffset-1, 1), api.MostOffset},
		{"a first frame that is over, and one that holds At", three + next, 8},
		{"a gap", three + frame(t, 9, 1), 5},
		{"an overlap", three + frame(t, 7, 1), 5},
		{"the same frame twice", three + three, 5},
		{"frames the wrong way round", next + three, 5},
		{"frames the wrong way round, the first with At", next + three, 8},
		{"a gap behind the second", three + next + frame(t, 10, 1), 5},
		{"a base of 0 behind", three + frame(t, 0, 1), 5},
		{"a frame whose base is At again", three + frame(t, 6, 1), 6},
	} {
		a := always(fetched(t, c.data), 3)
		r := client.NewConsumer(a, c.at, 77)
		if rows, e := r.Next(); rows != nil || e != api.ErrReply || r.At() != c.at || len(a.asked) != 1 {
			t.Errorf("P20.4: %s: %s, %d, at %d, asked %d times", c.name, toldRows(rows), e, r.At(), len(a.asked))
		}
		if rows, e := r.All(9); len(rows) != 0 || e != api.ErrReply || r.At() != c.at || len(a.asked) != 2 {
			t.Errorf("P20.5: %s: %s, %d, at %d, asked %d times", c.name, toldRows(rows), e, r.At(), len(a.asked))
		}
	}
}

// TestStays: behind an error a consumer asks for the same offset again.
func TestStays(t *testing.T) {
	a := &told{replies: []string{fetched(t, frame(t, 5, 1)), "", fetched(t, "junk"), form(t, api.Reply{Kind: api.AskFetch, Err: api.ErrOffset}), fetched(t, ""), fetched(t, frame(t, 6, 2, 3)), fetched(t, frame(t, 8, 4))}}
	c := client.NewConsumer(a, 5, 0)
	at := []int64{5, 6, 6, 6, 6, 6, 8, 9}
	for i, e := range []api.Errno{api.OK, api.ErrReply, api.ErrReply, api.ErrOffset, api.OK, api.OK, api.OK, api.ErrReply} {
		if _, got := c.Next(); got != e {
			t.Errorf("P20.4: turn %d: %d, want %d", i, got, e)
		}
		if a.asked[i] != asking(t, api.Request{Kind: api.AskFetch, Offset: at[i]}) {
			t.Errorf("P20.4: turn %d: asked %x", i, a.asked[i])
		}
	}
	if c.At() != 9 {
		t.Errorf("P20.4: at %d", c.At())
	}
}

// TestMost: a fetch asks for as many bytes as the consumer was told, whatever that is, and what comes may have more.
func TestMost(t *testing.T) {
	for _, most := range []int{math.MinInt, -1, 0, 1, api.MostFile, math.MaxInt} {
		a := always(fetched(t, frame(t, 0, 1)), 1)
		rows, e := client.NewConsumer(a, 0, most).Next()
		if len(rows) != 1 || e != api.OK || a.asked[0] != asking(t, api.Request{Kind: api.AskFetch, Most: most}) {
			t.Errorf("P20.4: %s, %d, asked %x", toldRows(rows), e, a.asked)
		}
	}
}

// TestGreatFrames: a frame of the most bytes, one of the most bytes of records, and one of the most records come through.
func TestGreatFrames(t *testing.T) {
	value := api.Opt{Has: true, Data: string(make([]byte, api.MostFrame-api.HeadSize-13))}
	great := encoded(t, api.Batch{Producer: -1, Seq: -1, Records: []api.Record{{Value: value}}})
	if len(great) != api.MostFrame {
		t.Fatalf("the greatest frame has %d bytes", len(great))
	}
	body := api.Opt{Has: true, Data: string(make([]byte, api.MostPlain-13))}
	if n, _ := record.Size(api.Record{Value: body}, 0, 0); n != api.MostPlain {
		t.Fatalf("the greatest body has %d bytes", n)
	}
	full := encoded(t, api.Batch{Base: 1, Packed: true, Producer: -1, Seq: -1, Records: []api.Record{{Value: body}}})
	many := frame(t, 2, make([]int64, api.MostRecords)...)
	c := client.NewConsumer(always(fetched(t, great+full+many), 1), 0, 0)
	rows, e := c.Next()
	if len(rows) != 2+api.MostRecords || e != api.OK || c.At() != 2+api.MostRecords {
		t.Fatalf("P20.4: %d rows, %d, at %d", len(rows), e, c.At())
	}
	if rows[0].Record.Value != value || rows[1].Record.Value != body || rows[1+api.MostRecords].Offset != 1+api.MostRecords {
		t.Error("P20.4: the rows differ")
	}
}

// TestAll: the turns, and what ends them.
func TestAll(t *testing.T) {
	full := []string{fetched(t, frame(t, 5, 1, 2)), fetched(t, frame(t, 7, 3)), fetched(t, frame(t, 7, 3)+frame(t, 8, 4)), fetched(t, frame(t, 9, 5))}
	full = slices.Delete(full, 1, 2)
	end := fetched(t, "")
	for _, c := range []struct {
		name    string
		replies []string
		turns   int
		rows    string
		e       api.Errno
		at      int64
		asked   int
	}{
		{"the least turns", full, math.MinInt, "[5:1 6:2]", api.OK, 7, 1},
		{"turns below 1", full, -1, "[5:1 6:2]", api.OK, 7, 1},
		{"no turns", full, 0, "[5:1 6:2]", api.OK, 7, 1},
		{"one", full, 1, "[5:1 6:2]", api.OK, 7, 1},
		{"two", full, 2, "[5:1 6:2 7:3 8:4]", api.OK, 9, 2},
		{"as many as there are", full, 3, "[5:1 6:2 7:3 8:4 9:5]", api.OK, 10, 3},
		{"one more", full, 4, "[5:1 6:2 7:3 8:4 9:5]", api.ErrReply, 10, 4},
		{"no end", full, math.MaxInt, "[5:1 6:2 7:3 8:4 9:5]", api.ErrReply, 10, 4},
		{"an end", append(slices.Clone(full), end, end), math.MaxInt, "[5:1 6:2 7:3 8:4 9:5]", api.OK, 10, 4},
		{"an end at once", []string{end, full[0]}, 5, "[]", api.OK, 5, 1},
		{"an end within", []string{full[0], end, full[1]}, 5, "[5:1 6:2]", api.OK, 7, 2},
		{"an error at once", []string{form(t, api.Reply{Kind: api.AskFetch, Err: api.ErrNone})}, 5, "[]", api.ErrNone, 5, 1},
		{"an error within", []string{full[0], form(t, api.Reply{Kind: api.AskFetch, Err: api.ErrOffset}), full[1]}, 5, "[5:1 6:2]", api.ErrOffset, 7, 2},
		{"wrong frames within", []string{full[0], full[1], full[1], full[2]}, 5, "[5:1 6:2 7:3 8:4]", api.ErrReply, 9, 3},
	} {
		a := &told{replies: c.replies}
		r := client.NewConsumer(a, 5, 9)
		rows, e := r.All(c.turns)
		if toldRows(rows) != c.rows || e != c.e || r.At() != c.at || len(a.asked) != c.asked {
			t.Errorf("P20.5: %s: %s, %d, at %d, asked %d times", c.name, toldRows(rows), e, r.At(), len(a.asked))
		}
	}
}
