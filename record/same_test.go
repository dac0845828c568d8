package record_test

import (
	"math"
	"slices"
	"testing"

	"gantry/api"
	"gantry/record"
)

func TestGreatest(t *testing.T) {
	for _, c := range []struct {
		times []int64
		want  int64
	}{
		{nil, 0},
		{[]int64{-5}, -5},
		{[]int64{5}, 5},
		{[]int64{0}, 0},
		{[]int64{-5, -3, -4}, -3},
		{[]int64{3, 2, 1}, 3},
		{[]int64{1, 2, 3}, 3},
		{[]int64{math.MinInt64}, math.MinInt64},
		{[]int64{math.MinInt64, math.MaxInt64, 0}, math.MaxInt64},
	} {
		var records []api.Record
		for _, v := range c.times {
			records = append(records, api.Record{Time: v})
		}
		if got := record.Greatest(records); got != c.want {
			t.Errorf("P5.6: Greatest of %v: %d", c.times, got)
		}
	}
	if record.Greatest([]api.Record{}) != 0 {
		t.Error("P5.6: Greatest of an empty list")
	}
}

// unlike answers records no two of which are the same.
func unlike() []api.Record {
	x := some("x")
	h := func(headers ...api.Header) api.Record { return api.Record{Headers: headers} }
	return []api.Record{
		{}, {Time: 1}, {Time: -1},
		{Key: some("")}, {Key: x}, {Key: some("y")}, {Key: some("xx")},
		{Value: some("")}, {Value: x}, {Value: some("y")},
		{Key: x, Value: x}, {Key: some(""), Value: some("")},
		h(api.Header{}), h(api.Header{Key: "x"}), h(api.Header{Key: "y"}),
		h(api.Header{Value: some("")}), h(api.Header{Value: x}), h(api.Header{Value: some("y")}),
		h(api.Header{Key: "x", Value: x}), h(api.Header{Key: "x", Value: some("")}),
		h(api.Header{}, api.Header{}), h(api.Header{Key: "x"}, api.Header{Key: "y"}), h(api.Header{Key: "y"}, api.Header{Key: "x"}),
		h(api.Header{Key: "x"}, api.Header{}), h(api.Header{}, api.Header{Key: "x"}), h(api.Header{Value: x}, api.Header{}), h(api.Header{}, api.Header{Value: x}),
	}
}

// cluttered is r with Data in every null, and with lists that have spare room.
func cluttered(r api.Record) api.Record {
	clutter := func(o api.Opt) api.Opt {
		if !o.Has {
			o.Data = "clutter"
		}
		return o
	}
	out := api.Record{Time: r.Time, Key: clutter(r.Key), Value: clutter(r.Value), Headers: make([]api.Header, 0, 8)}
	for _, h := range r.Headers {
		out.Headers = append(out.Headers, api.Header{Key: h.Key, Value: clutter(h.Value)})
	}
	return out
}

func TestSame(t *testing.T) {
	for i, a := range unlike() {
		for j, b := range unlike() {
			for _, same := range []bool{record.Same(a, b), record.Same(cluttered(a), b), record.Same(a, cluttered(b)), record.Same(cluttered(a), cluttered(b))} {
				if same != (i == j) {
					t.Errorf("P5.6: Same of %v and %v: %v", a, b, same)
				}
			}
		}
	}
}

func TestCopy(t *testing.T) {
	for _, r := range unlike() {
		full := cluttered(r)
		c := record.Copy(full)
		if !equal(c, r) || !record.Same(c, full) {
			t.Errorf("P5.6: Copy of %v: %v", r, c)
		}
		if c := record.Copy(r); !equal(c, r) {
			t.Errorf("P5.6: Copy of %v: %v", r, c)
		}
	}
}

func TestCopyApart(t *testing.T) {
	room := []api.Header{{Key: "a"}, {Key: "b", Value: api.Opt{Data: "clutter"}}, {Key: "spare"}}
	r := api.Record{Headers: room[:2]}
	c := record.Copy(r)
	c.Headers[0].Key = "changed"
	c.Headers = append(c.Headers, api.Header{Key: "more"})
	if !slices.Equal(room, []api.Header{{Key: "a"}, {Key: "b", Value: api.Opt{Data: "clutter"}}, {Key: "spare"}}) {
		t.Errorf("R3: the copy's list is that of the record: %v", room)
	}
	c = record.Copy(r)
	room[0].Key = "changed"
	if c.Headers[0].Key != "a" {
		t.Error("R3: the copy sees what becomes of the record")
	}
}

// TestAnswersApart sees to it that no two lists of an answer share memory, nor two answers.
func TestAnswersApart(t *testing.T) {
	header := []api.Header{{Key: "h"}}
	s, _ := bodyOf([]api.Record{{Headers: header}, {Headers: header}, {Headers: header}})
	want, _ := readingBody(s, 0, 3)
	got, _ := record.ReadBody(s, 0, 3)
	twin, _ := record.ReadBody(s, 0, 3)
	for i := range got {
		list := got[i].Headers
		spare := list[:cap(list)]
		for j := range spare {
			spare[j].Key = "changed"
		}
		if rest := got[i+1:]; !slices.EqualFunc(rest, want[i+1:], equal) {
			t.Errorf("R3: headers of record %d are those of another", i)
		}
	}
	if !slices.EqualFunc(twin, want, equal) {
		t.Error("R3: two answers share memory")
	}
	one, _, _ := record.Read(s, 0, 0)
	other, _, _ := record.Read(s, 0, 0)
	one.Headers[0].Key = "changed"
	if !equal(other, want[0]) {
		t.Error("R3: two answers of Read share memory")
	}
}

// TestArgumentsStay sees to it that what is handed in is left as it is, spare room too.
func TestArgumentsStay(t *testing.T) {
	make3 := func() []api.Record {
		out := make([]api.Record, 0, 6)
		for _, r := range unlike()[12:15] {
			out = append(out, cluttered(r))
		}
		out[:6][5].Time = 77
		return out
	}
	records := make3()
	record.Body(records)
	record.Greatest(records)
	record.Same(records[0], records[1])
	record.Copy(records[0])
	record.Bytes(records[0], 0, 0)
	record.Size(records[0], 0, 0)
	if !slices.EqualFunc(records[:6], make3()[:6], equal) {
		t.Errorf("R3: the records were changed: %v", records[:6])
	}
	for i, r := range records {
		for j, h := range r.Headers[:cap(r.Headers)] {
			if h != make3()[i].Headers[:8][j] {
				t.Errorf("R3: header %d of record %d was changed: %v", j, i, h)
			}
		}
	}
}
