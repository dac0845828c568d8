package record_test

import (
	"math"
	"reflect"
	"strings"
	"testing"

	"gantry/api"
	"gantry/record"
)

// expectRead holds Read against the chapter, bare down to the Data of nulls.
func expectRead(t *testing.T, s string, first int64, n int) api.Errno {
	t.Helper()
	r, size, e := record.Read(s, first, n)
	wantR, wantSize, want := readingOf(s, first, n)
	if e != want || size != wantSize || !equal(r, wantR) {
		t.Errorf("P5.2: Read(%s, %d, %d): %d bytes, error %d, want %d, %d", short(s), first, n, size, e, wantSize, want)
	}
	return e
}

// equal asks for more than Same: for the Data of nulls too.
func equal(a, b api.Record) bool {
	if len(a.Headers) == 0 && len(b.Headers) == 0 {
		a.Headers, b.Headers = nil, nil
	}
	return reflect.DeepEqual(a, b)
}

func TestReadTable(t *testing.T) {
	nine := strings.Repeat("\xff", 9)
	for _, c := range []struct {
		name, s string
		first   int64
		n       int
		size    int
		e       api.Errno
	}{
		{"least", least, 5, 0, 7, api.OK},
		{"with more behind", least + "more", 5, 0, 7, api.OK},
		{"n below 0", least, 5, -1, 0, api.ErrRange},
		{"n the least", least, 5, math.MinInt, 0, api.ErrRange},
		{"n MostRecords", "\x08\x00\x00\x80\x80\x04\x01\x01\x00", 5, 65536, 0, api.ErrRange},
		{"n the greatest", least, 5, math.MaxInt, 0, api.ErrRange},
		{"n goes ahead of all", "", 5, -1, 0, api.ErrRange},
		{"the greatest n", "\x08\x00\x00\xff\xff\x03\x01\x01\x00", 5, 65535, 9, api.OK},
		{"1: nothing", "", 5, 0, 0, api.ErrShort},
		{"1: cut", "\x86", 5, 0, 0, api.ErrShort},
		{"1: not canonical", "\x86\x00\x00\x00\x00\x01\x01\x00", 5, 0, 0, api.ErrVarint},
		{"1: one above", "\x07" + least[1:], 5, 0, 0, api.ErrLong},
		{"1: one above and a wrong attribute", "\x07\x01" + least[2:], 5, 0, 0, api.ErrLong},
		{"1: 2^64 - 1", nine + "\x01" + least[1:], 5, 0, 0, api.ErrLong},
		{"1: 2^63", strings.Repeat("\x80", 9) + "\x01" + least[1:], 5, 0, 0, api.ErrLong},
		{"1: 2^32 + 6", "\x86\x80\x80\x80\x10" + least[1:], 5, 0, 0, api.ErrLong},
		{"1: 11 bytes", nine + "\x80\x00", 5, 0, 0, api.ErrVarint},
		{"2: nothing in the form", "\x00" + least[1:], 5, 0, 0, api.ErrShort},
		{"2: nothing", "\x00", 5, 0, 0, api.ErrShort},
		{"2: not 0", "\x06\x01" + least[2:], 5, 0, 0, api.ErrRecord},
		{"2: 255 and nothing behind", "\x01\xff", 5, 0, 0, api.ErrRecord},
		{"3: nothing in the form", "\x01" + least[1:], 5, 0, 0, api.ErrShort},
		{"3: cut", "\x02\x00\x80\x01\x00\x01\x01\x00", 5, 0, 0, api.ErrShort},
		{"3: not canonical", "\x07\x00\x80\x00\x00\x01\x01\x00", 5, 0, 0, api.ErrVarint},
		{"3: above the greatest", "\x06\x00\x02\x00\x01\x01\x00", math.MaxInt64, 0, 0, api.ErrDelta},
		{"3: below the least", "\x06\x00\x01\x00\x01\x01\x00", math.MinInt64, 0, 0, api.ErrDelta},
		{"3: above, with nothing behind", "\x02\x00\x02", math.MaxInt64, 0, 0, api.ErrDelta},
		{"3: the greatest", "\x06\x00\x02\x00\x01\x01\x00", math.MaxInt64 - 1, 0, 7, api.OK},
		{"3: the least", "\x06\x00\x01\x00\x01\x01\x00", math.MinInt64 + 1, 0, 7, api.OK},
		{"3: from the greatest far down", "\x0f\x00" + nine + "\x01\x00\x01\x01\x00", math.MaxInt64, 0, 16, api.OK},
		{"3: from the least far up", "\x0f\x00\xfe" + nine[1:] + "\x01\x00\x01\x01\x00", math.MinInt64, 0, 16, api.OK},
		{"3: far down from below 0", "\x0f\x00" + nine + "\x01\x00\x01\x01\x00", -1, 0, 0, api.ErrDelta},
		{"3: far up from 1", "\x0f\x00\xfe" + nine[1:] + "\x01\x00\x01\x01\x00", 1, 0, 0, api.ErrDelta},
		{"4: nothing in the form", "\x02" + least[1:], 5, 0, 0, api.ErrShort},
		{"4: not canonical", "\x07\x00\x00\x80\x00\x01\x01\x00", 5, 0, 0, api.ErrVarint},
		{"4: another n", least, 5, 1, 0, api.ErrDelta},
		{"4: another n", "\x06\x00\x00\x01\x01\x01\x00", 5, 0, 0, api.ErrDelta},
		{"4: n and 2^32", "\x0a\x00\x00\x80\x80\x80\x80\x10\x01\x01\x00", 5, 0, 0, api.ErrDelta},
		{"4: 2^64 - 1", "\x0f\x00\x00" + nine + "\x01\x01\x01\x00", 5, 65535, 0, api.ErrDelta},
		{"4: another n, with nothing behind", "\x03\x00\x00\x01", 5, 0, 0, api.ErrDelta},
		{"5: no key in the form", "\x03" + least[1:], 5, 0, 0, api.ErrShort},
		{"5: key of -2", "\x06\x00\x00\x00\x03\x01\x00", 5, 0, 0, api.ErrLong},
		{"5: key beyond the form", "\x06\x00\x00\x00\x06\x01\x00more", 5, 0, 0, api.ErrLong},
		{"5: key not canonical", "\x07\x00\x00\x00\x81\x00\x01\x00", 5, 0, 0, api.ErrVarint},
		{"5: key takes the rest", "\x06\x00\x00\x00\x04\x01\x00more", 5, 0, 0, api.ErrShort},
		{"5: no value in the form", "\x04" + least[1:], 5, 0, 0, api.ErrShort},
		{"5: value of -2", "\x06\x00\x00\x00\x01\x03\x00", 5, 0, 0, api.ErrLong},
		{"5: value beyond the form", "\x06\x00\x00\x00\x01\x04\x00more", 5, 0, 0, api.ErrLong},
		{"5: value not canonical", "\x07\x00\x00\x00\x01\x81\x00\x00", 5, 0, 0, api.ErrVarint},
		{"5: value of 2^63 - 1", "\x0f\x00\x00\x00\x01\xfe" + nine[1:] + "\x01\x00", 5, 0, 0, api.ErrLong},
		{"6: no number in the form", "\x05" + least[1:], 5, 0, 0, api.ErrShort},
		{"6: not canonical", "\x07\x00\x00\x00\x01\x01\x80\x00", 5, 0, 0, api.ErrVarint},
		{"6: 1025", "\x07\x00\x00\x00\x01\x01\x81\x08", 5, 0, 0, api.ErrMost},
		{"6: 1024 and none there", "\x07\x00\x00\x00\x01\x01\x80\x08", 5, 0, 0, api.ErrShort},
		{"6: 2^64 - 1", "\x0f\x00\x00\x00\x01\x01" + nine + "\x01", 5, 0, 0, api.ErrMost},
		{"6: 2^32", "\x0a\x00\x00\x00\x01\x01\x80\x80\x80\x80\x10", 5, 0, 0, api.ErrMost},
		{"6: a key beyond the form", "\x08\x00\x00\x00\x01\x01\x01\x02hmore", 5, 0, 0, api.ErrLong},
		{"6: a key of 2^64 - 1", "\x10\x00\x00\x00\x01\x01\x01" + nine + "\x01", 5, 0, 0, api.ErrLong},
		{"6: a key not canonical", "\x08\x00\x00\x00\x01\x01\x01\x81\x00", 5, 0, 0, api.ErrVarint},
		{"6: no value", "\x08\x00\x00\x00\x01\x01\x01\x01h\x01", 5, 0, 0, api.ErrShort},
		{"6: a value of -2", "\x09\x00\x00\x00\x01\x01\x01\x01h\x03", 5, 0, 0, api.ErrLong},
		{"6: a value beyond the form", "\x09\x00\x00\x00\x01\x01\x01\x01h\x02x", 5, 0, 0, api.ErrLong},
		{"6: no second header", "\x09\x00\x00\x00\x01\x01\x02\x01h\x01\x00\x01", 5, 0, 0, api.ErrShort},
		{"a byte is left", "\x07" + least[1:] + "\x00", 5, 0, 0, api.ErrRecord},
		{"bytes are left behind a header", "\x0b\x00\x00\x00\x01\x01\x01\x01h\x01ab", 5, 0, 0, api.ErrRecord},
	} {
		_, size, e := record.Read(c.s, c.first, c.n)
		if size != c.size || e != c.e {
			t.Errorf("P5.2: %s: %d bytes, error %d, want %d, %d", c.name, size, e, c.size, c.e)
		}
		if expectRead(t, c.s, c.first, c.n) != c.e {
			t.Errorf("P5.2: %s", c.name)
		}
	}
}

func TestReadRecords(t *testing.T) {
	for _, c := range []struct {
		s    string
		n    int
		want api.Record
	}{
		{least, 0, api.Record{Time: 5}},
		{"\x08\x00\x03\x01\x00\x04ab\x00", 1, api.Record{Time: 3, Key: some(""), Value: some("ab")}},
		{"\x09\x00\x00\x02\x01\x01\x01\x01h\x01", 2, api.Record{Time: 5, Headers: []api.Header{{Key: "h"}}}},
		{"\x0e\x00\x03\x01\x00\x04ab\x02\x01h\x01\x00\x02x", 1, api.Record{Time: 3, Key: some(""), Value: some("ab"), Headers: []api.Header{{Key: "h"}, {Value: some("x")}}}},
		{"\x07\x00\x00\x00\x02k\x01\x00", 0, api.Record{Time: 5, Key: some("k")}},
		{"\x08\x00\x00\x00\x01\x00\x01\x00\x00", 0, api.Record{Time: 5, Value: some(""), Headers: []api.Header{{Value: some("")}}}},
	} {
		for _, behind := range []string{"", "\x00", least} {
			r, size, e := record.Read(c.s+behind, 5, c.n)
			if !equal(r, c.want) || size != len(c.s) || e != api.OK {
				t.Errorf("P5.2: %s: %v, %d, %d", short(c.s), r, size, e)
			}
		}
	}
}

func TestReadCut(t *testing.T) {
	whole, _ := formOf(api.Record{Time: 300, Key: some("key"), Value: some("value"), Headers: []api.Header{{Key: "h", Value: some("x")}, {Key: "i"}}}, 5, 200)
	own := whole[1:]
	for n := range len(own) {
		// The bytes are there, but the form ends ahead of them; and they are not there.
		if e := expectRead(t, sized(own[:n])+own[n:], 5, 200); e != api.ErrShort && e != api.ErrLong {
			t.Errorf("P5.2: a form of the first %d bytes: %d", n, e)
		}
		if _, _, e := record.Read(whole[:1+n], 5, 200); e != api.ErrLong {
			t.Errorf("P5.2: the first %d bytes: %d", n, e)
		}
	}
	if e := expectRead(t, whole, 5, 200); e != api.OK {
		t.Errorf("P5.2: the whole: %d", e)
	}
}

func TestReadMostHeaders(t *testing.T) {
	for _, n := range []int{1023, 1024} {
		s, _ := formOf(api.Record{Headers: make([]api.Header, n)}, 0, 0)
		r, size, e := record.Read(s, 0, 0)
		if len(r.Headers) != n || size != len(s) || e != api.OK {
			t.Errorf("P5.2: %d headers: %d, %d, %d", n, len(r.Headers), size, e)
		}
	}
	own := "\x00\x00\x00\x01\x01\x81\x08" + strings.Repeat("\x00\x01", 1025)
	if r, size, e := record.Read(sized(own), 0, 0); e != api.ErrMost || size != 0 || len(r.Headers) != 0 {
		t.Errorf("P5.2: 1025 headers: %d, %d, %d", len(r.Headers), size, e)
	}
}

func TestReadBig(t *testing.T) {
	s, _ := formOf(fill(api.MostPlain), 0, 0)
	if r, size, e := record.Read(s, 0, 0); e != api.OK || size != api.MostPlain || !equal(r, fill(api.MostPlain)) {
		t.Errorf("P5.2: the greatest form: %d, %d", size, e)
	}
	if _, size, e := record.Read(s+"v", 0, 0); e != api.OK || size != api.MostPlain {
		t.Errorf("P5.2: the greatest form with a byte behind: %d, %d", size, e)
	}
	text := fill(api.MostPlain).Value.Data + "v"
	head := "\x00\x00\x00\x01" + string(appendOpt(nil, some(text)))
	for _, c := range []struct {
		name, own string
		e         api.Errno
	}{
		{"one byte too many", head + "\x00", api.ErrBig},
		{"and some left", head + "\x00\x00", api.ErrRecord},
		{"without the headers' number", head, api.ErrShort},
		{"with too many headers", head + "\x81\x08", api.ErrMost},
		{"with an attribute", "\x01" + head[1:] + "\x00", api.ErrRecord},
		{"with another n", "\x00\x00\x01" + head[3:] + "\x00", api.ErrDelta},
	} {
		r, size, e := record.Read(sized(c.own), 0, 0)
		if e != c.e || size != 0 || !equal(r, api.Record{}) {
			t.Errorf("P5.2: a great form %s: %d, %d, want %d", c.name, size, e, c.e)
		}
	}
}

// TestReadAllSmall goes through all forms whose own bytes are up to seven of a few values, with their right length and with those beside it.
func TestReadAllSmall(t *testing.T) {
	taken := 0
	var walk func(own string)
	walk = func(own string) {
		for _, length := range []int{len(own) - 1, len(own), len(own) + 1} {
			s := string([]byte{byte(max(length, 0))}) + own
			for n := range 2 {
				if expectRead(t, s, 5, n) == api.OK {
					taken++
				}
			}
		}
		if len(own) < 7 && !t.Failed() {
			for _, b := range []string{"\x00", "\x01", "\x02", "\x03", "\x80"} {
				walk(own + b)
			}
		}
	}
	walk("")
	if taken < 100 {
		t.Errorf("only %d forms were taken", taken)
	}
}

// TestReadHarmed reads forms with a few bytes changed, and whatever is taken must be the one form of its record.
func TestReadHarmed(t *testing.T) {
	count := map[api.Errno]int{}
	for seed := range uint64(30000) {
		d := newDice(seed)
		r, first, n := d.record(), d.time(), d.IntN(65536)>>d.IntN(17)
		s, e := formOf(r, first, n)
		if e != api.OK {
			continue
		}
		for range d.IntN(3) {
			s = d.harm(s)
		}
		s += d.text()
		e = expectRead(t, s, first, n)
		count[e]++
		if e == api.OK {
			got, size, _ := record.Read(s, first, n)
			if form, e := record.Bytes(got, first, n); form != s[:size] || e != api.OK {
				t.Errorf("P5.5: seed %d: of what was read came another form, %d", seed, e)
			}
		}
	}
	for _, e := range []api.Errno{api.OK, api.ErrShort, api.ErrLong, api.ErrVarint, api.ErrRecord, api.ErrDelta} {
		if count[e] < 20 {
			t.Errorf("error %d was met only %d times", e, count[e])
		}
	}
}
