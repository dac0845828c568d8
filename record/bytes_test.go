package record_test

import (
	"fmt"
	"math"
	"strings"
	"testing"

	"gantry/api"
	"gantry/record"
)

const least = "\x06\x00\x00\x00\x01\x01\x00"

// expectForm holds Bytes and Size against what is wanted of both.
func expectForm(t *testing.T, name string, r api.Record, first int64, n int, want string, e api.Errno) {
	t.Helper()
	if got, f := record.Bytes(r, first, n); got != want || f != e {
		t.Errorf("P5.1: %s: Bytes: %s, %d, want %s, %d", name, short(got), f, short(want), e)
	}
	if size, f := record.Size(r, first, n); size != len(want) || f != e {
		t.Errorf("P5.1: %s: Size: %d, %d, want %d, %d", name, size, f, len(want), e)
	}
}

// short tells bytes without filling the screen.
func short(s string) string {
	if len(s) > 60 {
		return fmt.Sprintf("%x..", s[:30])
	}
	return fmt.Sprintf("%x", s)
}

func TestFormExamples(t *testing.T) {
	expectForm(t, "least", api.Record{Time: 5}, 5, 0, least, api.OK)
	expectForm(t, "empty key", api.Record{Time: 3, Key: some(""), Value: some("ab")}, 5, 1, "\x08\x00\x03\x01\x00\x04ab\x00", api.OK)
	expectForm(t, "header", api.Record{Time: 5, Headers: []api.Header{{Key: "h"}}}, 5, 2, "\x09\x00\x00\x02\x01\x01\x01\x01h\x01", api.OK)
	expectForm(t, "least time", api.Record{Time: math.MinInt64}, 1, 0, "", api.ErrDelta)
}

func TestFormOfNulls(t *testing.T) {
	null := api.Opt{Data: "passed over"}
	expectForm(t, "key and value", api.Record{Time: 5, Key: null, Value: null}, 5, 0, least, api.OK)
	expectForm(t, "header", api.Record{Headers: []api.Header{{Key: "h", Value: null}, {Value: some("")}}}, 0, 0, "\x0b\x00\x00\x00\x01\x01\x02\x01h\x01\x00\x00", api.OK)
	expectForm(t, "an empty list", api.Record{Headers: []api.Header{}}, 0, 0, least, api.OK)
}

func TestFormNumbers(t *testing.T) {
	for _, c := range []struct {
		n    int
		want string
		e    api.Errno
	}{
		{0, least, api.OK},
		{127, "\x06\x00\x00\x7f\x01\x01\x00", api.OK},
		{128, "\x07\x00\x00\x80\x01\x01\x01\x00", api.OK},
		{16383, "\x07\x00\x00\xff\x7f\x01\x01\x00", api.OK},
		{16384, "\x08\x00\x00\x80\x80\x01\x01\x01\x00", api.OK},
		{65535, "\x08\x00\x00\xff\xff\x03\x01\x01\x00", api.OK},
		{65536, "", api.ErrRange},
		{65537, "", api.ErrRange},
		{math.MaxInt, "", api.ErrRange},
		{-1, "", api.ErrRange},
		{math.MinInt, "", api.ErrRange},
	} {
		expectForm(t, "number", api.Record{Time: 7}, 7, c.n, c.want, c.e)
	}
}

func TestFormDifferences(t *testing.T) {
	nine := strings.Repeat("\xff", 9)
	for _, c := range []struct {
		time, first int64
		delta       string
	}{
		{8, 7, "\x02"},
		{7, 8, "\x01"},
		{71, 7, "\x80\x01"},
		{-57, 7, "\x7f"},
		{math.MaxInt64, 0, "\xfe" + nine[1:] + "\x01"},
		{math.MaxInt64 - 1, -1, "\xfe" + nine[1:] + "\x01"},
		{-1, math.MinInt64, "\xfe" + nine[1:] + "\x01"},
		{math.MinInt64, 0, nine + "\x01"},
		{-1, math.MaxInt64, nine + "\x01"},
		{math.MinInt64, math.MinInt64, "\x00"},
		{math.MaxInt64, math.MaxInt64, "\x00"},
		{math.MinInt64 + 1, 1, nine + "\x01"},
		{math.MaxInt64, -1, ""},
		{math.MaxInt64, math.MinInt64, ""},
		{0, math.MinInt64, ""},
		{math.MinInt64, 1, ""},
		{math.MinInt64, math.MaxInt64, ""},
		{-2, math.MaxInt64, ""},
	} {
		if c.delta == "" {
			expectForm(t, "difference", api.Record{Time: c.time}, c.first, 0, "", api.ErrDelta)
			continue
		}
		expectForm(t, "difference", api.Record{Time: c.time}, c.first, 0, sized("\x00"+c.delta+"\x00\x01\x01\x00"), api.OK)
	}
}

func TestFormLengths(t *testing.T) {
	for _, n := range []int{0, 1, 63, 64, 127, 128, 8191, 8192, 16383, 16384} {
		text := strings.Repeat("t", n)
		for _, r := range []api.Record{
			{Key: some(text)},
			{Value: some(text)},
			{Headers: []api.Header{{Key: text}}},
			{Headers: []api.Header{{Value: some(text)}}},
		} {
			want, _ := formOf(r, 0, 0)
			expectForm(t, "a long text", r, 0, 0, want, api.OK)
		}
	}
}

func TestFormHeaders(t *testing.T) {
	for _, n := range []int{1, 127, 128, 1023, 1024} {
		r := api.Record{Headers: make([]api.Header, n)}
		want, _ := formOf(r, 0, 0)
		expectForm(t, "headers", r, 0, 0, want, api.OK)
	}
	for _, n := range []int{1025, 1026, 100000} {
		expectForm(t, "too many headers", api.Record{Headers: make([]api.Header, n)}, 0, 0, "", api.ErrMost)
	}
}

// fill answers a record whose form, as that of a number below 128, has just size bytes, if these are near MostPlain: then its two lengths have 4 bytes each, and 5 stand there besides.
func fill(size int) api.Record {
	return api.Record{Value: some(strings.Repeat("v", size-13))}
}

func TestFormBig(t *testing.T) {
	r := fill(api.MostPlain)
	want, _ := formOf(r, 0, 0)
	expectForm(t, "the greatest form", r, 0, 0, want, api.OK)
	r.Value.Data += "v"
	expectForm(t, "one byte more", r, 0, 0, "", api.ErrBig)
	r.Value.Data = r.Value.Data[1:]
	expectForm(t, "a longer number", r, 0, 128, "", api.ErrBig)
	expectForm(t, "a longer difference", r, -64, 0, "", api.ErrBig)
	r.Headers = []api.Header{{}}
	expectForm(t, "a header more", r, 0, 0, "", api.ErrBig)
	r.Value.Has, r.Headers = false, nil
	expectForm(t, "null", r, 0, 0, least, api.OK)
	half := strings.Repeat("h", api.MostPlain/2)
	expectForm(t, "key and value", api.Record{Key: some(half), Value: some(half)}, 0, 0, "", api.ErrBig)
	expectForm(t, "headers", api.Record{Headers: []api.Header{{Key: half}, {Value: some(half)}}}, 0, 0, "", api.ErrBig)
	many := make([]api.Header, api.MostHeaders)
	for i := range many {
		many[i] = api.Header{Key: half, Value: some(half)}
	}
	expectForm(t, "16 GiB", api.Record{Headers: many}, 0, 0, "", api.ErrBig)
}

func TestFormErrorsInOrder(t *testing.T) {
	r := api.Record{Time: math.MinInt64, Key: some(strings.Repeat("k", api.MostPlain)), Headers: make([]api.Header, 1025)}
	expectForm(t, "all four", r, 1, -1, "", api.ErrRange)
	expectForm(t, "all four", r, 1, 65536, "", api.ErrRange)
	expectForm(t, "three", r, 1, 0, "", api.ErrDelta)
	expectForm(t, "two", r, 0, 0, "", api.ErrMost)
	r.Headers = r.Headers[1:]
	expectForm(t, "one", r, 0, 0, "", api.ErrBig)
}

func TestFormsOfMany(t *testing.T) {
	count := map[api.Errno]int{}
	for seed := range uint64(4000) {
		d := newDice(seed)
		r, first, n := d.record(), d.time(), d.IntN(65536)>>d.IntN(17)
		want, e := formOf(r, first, n)
		expectForm(t, "dice", r, first, n, want, e)
		count[e]++
	}
	if count[api.OK] < 1000 || count[api.ErrDelta] < 10 {
		t.Errorf("the dice don't fall as they should: %v", count)
	}
}
