package record_test

import (
	"math"
	"runtime"
	"slices"
	"strings"
	"testing"

	"gantry/api"
	"gantry/record"
)

func three() []api.Record {
	return []api.Record{
		{Time: 7, Key: some("k")},
		{Time: 3, Value: some("")},
		{Time: 9, Headers: []api.Header{{Key: "a", Value: some("b")}}},
	}
}

const threeBody = "\x07\x00\x00\x00\x02k\x01\x00\x06\x00\x07\x01\x01\x00\x00\x0a\x00\x04\x02\x01\x01\x01\x01a\x02b"

func expectBody(t *testing.T, name string, records []api.Record, want string, e api.Errno) {
	t.Helper()
	if got, f := record.Body(records); got != want || f != e {
		t.Errorf("P5.3: %s: %s of %d bytes, %d, want %d bytes, %d", name, short(got), len(got), f, len(want), e)
	}
}

func expectRecords(t *testing.T, name, s string, first int64, count int, want []api.Record, e api.Errno) {
	t.Helper()
	if got, f := record.ReadBody(s, first, count); f != e || !slices.EqualFunc(got, want, equal) {
		t.Errorf("P5.4: %s: %d records, error %d, want %d, %d", name, len(got), f, len(want), e)
	}
}

func TestBody(t *testing.T) {
	expectBody(t, "three", three(), threeBody, api.OK)
	expectBody(t, "one", []api.Record{{Time: math.MinInt64}}, least, api.OK)
	expectBody(t, "one", []api.Record{{Time: math.MaxInt64}}, least, api.OK)
	expectBody(t, "none", nil, "", api.ErrBatch)
	expectBody(t, "none", []api.Record{}, "", api.ErrBatch)
}

func TestBodyCounts(t *testing.T) {
	most := make([]api.Record, 65536)
	s, e := bodyOf(most)
	expectBody(t, "65536", most, s, e)
	expectRecords(t, "65536", s, 0, 65536, most, api.OK)
	more := make([]api.Record, 65537)
	expectBody(t, "65537", more, "", api.ErrBatch)
	more[0].Headers = make([]api.Header, 1025)
	expectBody(t, "65537 and a wrong one", more, "", api.ErrBatch)
}

func TestBodyErrors(t *testing.T) {
	delta := api.Record{Time: math.MinInt64}
	most := api.Record{Time: 1, Headers: make([]api.Header, 1025)}
	big := api.Record{Time: 1, Value: some(strings.Repeat("v", api.MostPlain))}
	great := api.Record{Time: 1, Value: some(strings.Repeat("v", api.MostPlain-100))}
	right := api.Record{Time: 1}
	for _, c := range []struct {
		name    string
		records []api.Record
		e       api.Errno
	}{
		{"the first of three", []api.Record{most, big, delta}, api.ErrMost},
		{"the first of three", []api.Record{big, delta, most}, api.ErrBig},
		{"the second", []api.Record{right, delta, most, big}, api.ErrDelta},
		{"the last", []api.Record{right, right, most}, api.ErrMost},
		{"the body is too great", []api.Record{great, great}, api.ErrBig},
		{"a record ahead of the body", []api.Record{great, great, delta}, api.ErrDelta},
		{"a record ahead of the body", []api.Record{right, great, great, great, most}, api.ErrMost},
	} {
		expectBody(t, c.name, c.records, "", c.e)
	}
}

func TestBodyBig(t *testing.T) {
	// The second one's number has one byte, as the first one's has, so it is as long.
	records := []api.Record{{}, fill(api.MostPlain - 7)}
	s, e := bodyOf(records)
	if len(s) != api.MostPlain || e != api.OK {
		t.Fatalf("%d, %d", len(s), e)
	}
	expectBody(t, "the greatest", records, s, api.OK)
	expectRecords(t, "the greatest", s, 0, 2, records, api.OK)
	records[0].Key = some("k")
	expectBody(t, "one byte more", records, "", api.ErrBig)
	records[0].Key = api.Opt{}
	records[1].Value.Data += "v"
	expectBody(t, "one byte more", records, "", api.ErrBig)
	many := slices.Repeat([]api.Record{fill(api.MostPlain - 50)}, 65536)
	expectBody(t, "a TiB", many, "", api.ErrBig)
}

func TestReadBodyTable(t *testing.T) {
	for _, c := range []struct {
		name  string
		s     string
		first int64
		count int
		want  []api.Record
		e     api.Errno
	}{
		{"three", threeBody, 7, 3, three(), api.OK},
		{"another first", least, 6, 1, []api.Record{{Time: 6}}, api.OK},
		{"the least first", least, math.MinInt64, 1, []api.Record{{Time: math.MinInt64}}, api.OK},
		{"one too few", threeBody, 7, 2, nil, api.ErrLeft},
		{"two too few", threeBody, 7, 1, nil, api.ErrLeft},
		{"one too many", threeBody, 7, 4, nil, api.ErrShort},
		{"many too many", threeBody, 7, 65536, nil, api.ErrShort},
		{"one too many", least, 6, 2, nil, api.ErrShort},
		{"twice the first", least + least, 5, 1, nil, api.ErrLeft},
		{"twice the first", least + least, 5, 2, nil, api.ErrDelta},
		{"none", threeBody, 7, 0, nil, api.ErrBatch},
		{"none of none", "", 7, 0, nil, api.ErrBatch},
		{"fewer than none", threeBody, 7, -1, nil, api.ErrBatch},
		{"the least count", threeBody, 7, math.MinInt, nil, api.ErrBatch},
		{"65537", threeBody, 7, 65537, nil, api.ErrBatch},
		{"the greatest count", threeBody, 7, math.MaxInt, nil, api.ErrBatch},
		{"no bytes", "", 7, 1, nil, api.ErrShort},
		{"a byte is missing ahead", threeBody[1:], 7, 3, nil, api.ErrShort},
		{"a byte is missing behind", threeBody[:len(threeBody)-1], 7, 3, nil, api.ErrLong},
		{"a byte is left", threeBody + "\x00", 7, 3, nil, api.ErrLeft},
		{"the first isn't first", "\x06\x00\x02\x00\x01\x01\x00", 7, 1, nil, api.ErrDelta},
		{"the first isn't first", "\x06\x00\x01\x00\x01\x01\x00", 7, 1, nil, api.ErrDelta},
		{"the first isn't first, and bytes are left", "\x06\x00\x02\x00\x01\x01\x00\x00", 7, 1, nil, api.ErrDelta},
		{"the first isn't first, ahead of a wrong second", "\x06\x00\x02\x00\x01\x01\x00\x01\x01", 7, 2, nil, api.ErrDelta},
		{"a wrong one that isn't first", "\x06\x00\x02\x00\x01\x01\x01", 7, 1, nil, api.ErrShort},
		{"a wrong second", least + "\x06\x01\x00\x01\x01\x01\x00", 7, 2, nil, api.ErrRecord},
		{"a second beyond all times", least + "\x06\x00\x02\x01\x01\x01\x00", math.MaxInt64, 2, nil, api.ErrDelta},
		{"a second with another time", least + "\x06\x00\x01\x01\x01\x01\x00", math.MaxInt64, 2, []api.Record{{Time: math.MaxInt64}, {Time: math.MaxInt64 - 1}}, api.OK},
	} {
		expectRecords(t, c.name, c.s, c.first, c.count, c.want, c.e)
		want, e := readingBody(c.s, c.first, c.count)
		expectRecords(t, c.name, c.s, c.first, c.count, want, e)
	}
}

func TestReadBodyBig(t *testing.T) {
	long := strings.Repeat("\x00", api.MostPlain+1)
	expectRecords(t, "too long", long, 0, 1, nil, api.ErrBig)
	expectRecords(t, "as long as can be", long[1:], 0, 1, nil, api.ErrShort)
	expectRecords(t, "too long, and no count", long, 0, 0, nil, api.ErrBatch)
	expectRecords(t, "too long, and too many", long, 0, 65537, nil, api.ErrBatch)
	s, _ := formOf(fill(api.MostPlain), 0, 0)
	expectRecords(t, "the greatest record", s, 0, 1, []api.Record{fill(api.MostPlain)}, api.OK)
	expectRecords(t, "with a byte behind", s+"\x00", 0, 1, nil, api.ErrBig)
}

// TestReadBodyMemory sees to it that a count, or a number of headers, that the bytes don't bear out takes no memory.
func TestReadBodyMemory(t *testing.T) {
	const most = 100000
	for _, s := range []string{least, "", "\x07\x00\x00\x00\x01\x01\x80\x08"} {
		var ahead, behind runtime.MemStats
		runtime.ReadMemStats(&ahead)
		_, e := record.ReadBody(s, 0, 65536)
		runtime.ReadMemStats(&behind)
		if took := behind.TotalAlloc - ahead.TotalAlloc; e != api.ErrShort || took > most {
			t.Errorf("P5.4: of %s: %d, %d bytes taken", short(s), e, took)
		}
	}
}

func TestBodyIsRead(t *testing.T) {
	for seed := range uint64(600) {
		d := newDice(seed)
		records := d.near(1 + d.IntN([]int{2, 10, 200}[d.IntN(3)]))
		want, e := bodyOf(records)
		expectBody(t, "dice", records, want, e)
		got, e := record.ReadBody(want, records[0].Time, len(records))
		if e != api.OK || !slices.EqualFunc(got, records, record.Same) {
			t.Fatalf("P5.5: seed %d: %d, %d records of %d", seed, e, len(got), len(records))
		}
		if again, e := record.Body(got); again != want || e != api.OK {
			t.Fatalf("P5.5: seed %d: another body, %d", seed, e)
		}
	}
}

func TestReadBodyHarmed(t *testing.T) {
	taken := 0
	for seed := range uint64(8000) {
		d := newDice(seed)
		records := d.near(1 + d.IntN(6))
		s, _ := bodyOf(records)
		for range d.IntN(3) {
			s = d.harm(s)
		}
		first, count := records[0].Time, len(records)+d.IntN(8)/7
		want, e := readingBody(s, first, count)
		expectRecords(t, "harmed", s, first, count, want, e)
		if e == api.OK {
			taken++
			got, _ := record.ReadBody(s, first, count)
			if again, e := record.Body(got); again != s || e != api.OK {
				t.Errorf("P5.5: seed %d: of what was read came another body, %d", seed, e)
			}
		}
	}
	if taken < 1000 {
		t.Errorf("only %d bodies were taken", taken)
	}
}
