package seek_test

import (
	"math"
	"slices"
	"strings"
	"testing"

	"gantry/api"
	"gantry/batch"
	"gantry/record"
	"gantry/seek"
)

// kinds is records of all kinds: null apart from empty, headers, times at the ends of all numbers, bytes of any kind.
func kinds() []api.Record {
	every := make([]byte, 256)
	for i := range every {
		every[i] = byte(i)
	}
	return []api.Record{
		{Time: -3},
		{Time: -3, Key: some("")},
		{Time: -3, Value: some("")},
		{Time: 4, Key: some("key"), Value: some(string(every))},
		{Time: -9, Key: some(""), Value: some(""), Headers: []api.Header{{}}},
		{Time: 0, Headers: []api.Header{{Key: "h"}, {Key: "h", Value: some("")}, {Value: some("v")}}},
		{Time: math.MaxInt64 - 3, Value: some(strings.Repeat("ab", 300))},
		{Time: math.MinInt64, Headers: []api.Header{{Key: strings.Repeat("k", 200), Value: some(strings.Repeat("v", 200))}}},
	}
}

// batches answers kinds in batches of one or more records, each of them plain and packed.
func batches() []api.Batch {
	var list []api.Batch
	all := kinds()
	for _, packed := range []bool{false, true} {
		for i := range all {
			list = append(list, api.Batch{Packed: packed, Producer: -1, Seq: -1, Records: all[i : i+1]})
		}
		list = append(list, api.Batch{Packed: packed, Producer: -1, Seq: -1, Records: all[:len(all)-1]})
		list = append(list, api.Batch{Packed: packed, Producer: -1, Seq: -1, Records: all[2:5]})
	}
	return list
}

// TestRecordsAreTheSame: what was produced, packed or not, is fetched as the same records with the offsets that they were given, by Rows and by Fetch.
func TestRecordsAreTheSame(t *testing.T) {
	c := api.Config{Segment: 2000, Frame: 5000, Plain: 5000, Every: 300, Room: 1 << 20, First: 40}
	var frames []string
	var want []seek.Row
	for _, b := range batches() {
		frames = append(frames, encoded(t, b))
		for _, r := range b.Records {
			want = append(want, seek.Row{Offset: 40 + int64(len(want)), Record: r})
		}
	}
	l, d := logOf(t, c, frames...)
	for from := range want {
		rows, e := seek.Rows(l, 40+int64(from), math.MaxInt)
		if !slices.EqualFunc(rows, want[from:], sameRow) || e != api.OK {
			t.Errorf("P3: Rows from %d on: %d of %d, %d", from, len(rows), len(want)-from, e)
		}
		for _, r := range rows {
			expectNulls(t, r.Record)
		}
	}
	text, _ := seek.Fetch(l, 40, math.MaxInt)
	for i, b := range batches() {
		got, n, e := batch.Decode(text, c.Frame, c.Plain)
		b.Base = got.Base
		if !batch.Same(got, b) || got.Base != want[0].Offset || e != api.OK {
			t.Fatalf("P3: frame %d that is fetched: %+v, %d", i, got, e)
		}
		text, want = text[n:], want[len(b.Records):]
	}
	expect(t, "P3: records of all kinds", l, d)
}

// expectNulls: of a null Data is empty.
func expectNulls(t *testing.T, r api.Record) {
	t.Helper()
	opts := []api.Opt{r.Key, r.Value}
	for _, h := range r.Headers {
		opts = append(opts, h.Value)
	}
	for _, o := range opts {
		if !o.Has && o.Data != "" {
			t.Errorf("P3: a null has the data %q", o.Data)
		}
	}
}

// TestRowsAreNew: no two lists of an answer share memory, nor do two answers, spare room too.
func TestRowsAreNew(t *testing.T) {
	b := api.Batch{Producer: -1, Seq: -1}
	for range 3 {
		b.Records = append(b.Records, api.Record{Headers: []api.Header{{Key: "a"}, {Key: "b"}, {Key: "c"}}})
	}
	frame := encoded(t, b)
	b.Packed = true
	l, _ := logOf(t, config(), frame, encoded(t, b), frame)
	rows, _ := seek.Rows(l, 6, 7)
	other, _ := seek.Rows(l, 6, 7)
	for i := range rows {
		list := rows[i].Record.Headers
		list = list[:cap(list)]
		for j := range list {
			list[j] = api.Header{Key: "written over"}
		}
		for j := range rows {
			if j > i && !record.Same(rows[j].Record, other[j].Record) {
				t.Fatalf("R3: the headers of the rows %d and %d share memory", i, j)
			}
		}
	}
	spare := rows[:cap(rows)]
	for i := range spare {
		spare[i] = seek.Row{Offset: -7}
	}
	again, _ := seek.Rows(l, 6, 7)
	if len(again) != 7 || !slices.EqualFunc(again, other, sameRow) {
		t.Errorf("R3: two answers share memory: %+v", again)
	}
}

// TestRowsReadNoMore: a few rows of a long log take a few frames' bytes, none take none, and a great count takes no memory of its own.
func TestRowsReadNoMore(t *testing.T) {
	var frames []string
	for range 500 {
		frames = append(frames, timed(t, 1, 2))
	}
	c := config()
	c.Segment = 3500
	l, d := logOf(t, c, frames...)
	for _, count := range []int{0, 1, 2, 3} {
		read := meter(d, func() { seek.Rows(l, 401, count) })
		if most := count * (60 + 3*70); read > most {
			t.Errorf("%d rows take %d bytes", count, read)
		}
	}
	if rows, e := seek.Rows(l, l.End()-1, math.MaxInt); len(rows) != 1 || e != api.OK {
		t.Errorf("P16.4: the last record: %d rows, %d", len(rows), e)
	}
}

// TestWrongArguments: where an offset and a count are both wrong, the offset's error is told.
func TestWrongArguments(t *testing.T) {
	l, _ := example(t)
	for _, o := range []int64{math.MinInt64, -1, 4, 11, math.MaxInt64} {
		for _, n := range []int{math.MinInt, -1, 0, 1, math.MaxInt} {
			if rows, e := seek.Rows(l, o, n); len(rows) != 0 || e != api.ErrOffset {
				t.Errorf("P16.4: Rows(%d, %d): %+v, %d", o, n, rows, e)
			}
		}
	}
	for o := int64(5); o <= 10; o++ {
		for _, n := range []int{math.MinInt, -1} {
			if rows, e := seek.Rows(l, o, n); len(rows) != 0 || e != api.ErrRange {
				t.Errorf("P16.4: Rows(%d, %d): %+v, %d", o, n, rows, e)
			}
		}
	}
}
