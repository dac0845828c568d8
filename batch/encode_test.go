package batch_test

import (
	"fmt"
	"math"
	"slices"
	"strings"
	"testing"

	"gantry/api"
	"gantry/batch"
	"gantry/lz"
	"gantry/record"
)

// one is the chapter's example.
func one() api.Batch {
	return api.Batch{Base: 3, Producer: -1, Seq: -1, Records: []api.Record{{Time: 5}}}
}

// three has keys, values and headers, null, empty and not, and a greatest time that is neither the first nor the last.
func three(packed bool) api.Batch {
	text := some("abcabcabcabcabcabcabcabc")
	return api.Batch{Base: 1000, Packed: packed, Producer: 7, Seq: 2, Records: []api.Record{
		{Time: 10, Key: some(""), Value: text},
		{Time: 20, Value: text, Headers: []api.Header{{Key: "h", Value: text}, {}, {Key: "e", Value: some("")}}},
		{Time: -3, Key: text},
	}}
}

const leastRecord = "\x06\x00\x00\x00\x01\x01\x00"

// short tells bytes without filling the screen.
func short(s string) string {
	if len(s) > 130 {
		return fmt.Sprintf("%x.. (%d bytes)", s[:60], len(s))
	}
	return fmt.Sprintf("%x", s)
}

// expectFrame holds Encode and Size against what is wanted of both.
func expectFrame(t *testing.T, name string, b api.Batch, want string, e api.Errno) {
	t.Helper()
	if got, f := batch.Encode(b); got != want || f != e {
		t.Errorf("P6.1: %s: Encode: %s, %d, want %s, %d", name, short(got), f, short(want), e)
	}
	if size, f := batch.Size(b); size != len(want) || f != e {
		t.Errorf("P6.1: %s: Size: %d, %d, want %d, %d", name, size, f, len(want), e)
	}
}

// expectRefused holds Encode and Size against an error, and the chapter's words too.
func expectRefused(t *testing.T, name string, b api.Batch, e api.Errno) {
	t.Helper()
	if _, f := encoding(b); f != e {
		t.Errorf("%s: the chapter's words make %d, not %d", name, f, e)
	}
	expectFrame(t, name, b, "", e)
}

// encoded answers a batch's frame, which it must have.
func encoded(t *testing.T, b api.Batch) string {
	t.Helper()
	s, e := batch.Encode(b)
	if e != api.OK {
		t.Fatalf("P6.1: a right batch is refused: %d", e)
	}
	return s
}

func TestEncodeExamples(t *testing.T) {
	zeros := strings.Repeat("\x00", 7)
	ahead := zeros + "\x03\x00\x00\x00\x2e\x47"
	times := zeros + "\x05" + zeros + "\x05"
	none := strings.Repeat("\xff", 12)
	want := sealed(ahead + "sum?\x00\x00\x00\x00\x00\x01" + times + none + leastRecord)
	if len(want) != api.LeastFrame {
		t.Fatalf("%d bytes", len(want))
	}
	expectFrame(t, "the least frame", one(), want, api.OK)
	b := one()
	b.Packed = true
	want = sealed(zeros + "\x03\x00\x00\x00\x33\x47sum?\x00\x01\x00\x00\x00\x01" + times + none + "\x00\x00\x00\x07\x06" + leastRecord)
	if len(want) != 63 {
		t.Fatalf("%d bytes", len(want))
	}
	expectFrame(t, "packed", b, want, api.OK)
	b = one()
	b.Base = api.MostOffset
	expectRefused(t, "a base too great", b, api.ErrRange)
	b.Base--
	b.Records = make([]api.Record, 2)
	expectRefused(t, "a last offset too great", b, api.ErrOver)
	b = one()
	b.Producer = 0
	expectRefused(t, "a producer without a sequence", b, api.ErrRange)
	b = one()
	b.Records = nil
	expectRefused(t, "no records", b, api.ErrNone)
}

func TestEncodeFields(t *testing.T) {
	b := api.Batch{Base: 0x0102030405060708, Producer: 0x1112131415161718, Seq: 0x21222324, Records: []api.Record{{Time: 0x3132333435363738}, {Time: 0x4142434445464748}}}
	s := encoded(t, b)
	for _, c := range []struct {
		at   int
		want string
	}{
		{0, "\x01\x02\x03\x04\x05\x06\x07\x08"},
		{12, "G"},
		{17, "\x00\x00\x00\x00\x00\x02"},
		{23, "12345678ABCDEFGH"},
		{39, "\x11\x12\x13\x14\x15\x16\x17\x18!\"#$"},
		{51, leastRecord},
	} {
		if !strings.HasPrefix(s[c.at:], c.want) {
			t.Errorf("P6.1: at %d stands %x, want %x", c.at, s[c.at:c.at+len(c.want)], c.want)
		}
	}
	b.Packed = true
	if p := encoded(t, b); p[17:19] != "\x00\x01" || p[19:51] != s[19:51] || p[:8] != s[:8] {
		t.Errorf("P6.1: packed it has another head: %x", p[:51])
	}
}

func TestEncodePacked(t *testing.T) {
	b := three(true)
	body, _ := record.Body(b.Records)
	if want := packedForm(body, lz.Pack(body)); encoded(t, b)[51:] != want {
		t.Errorf("P6.1: packed: %x, want %x", encoded(t, b)[51:], want)
	}
	if plain := encoded(t, three(false)); plain[51:] != body || len(plain) <= len(encoded(t, b)) {
		t.Errorf("P6.1: plain: %x, want %x", plain[51:], body)
	}
	// No match is in it: packed it is the longer one, and packed all the same.
	b = one()
	b.Packed = true
	if s := encoded(t, b); s[18] != 1 || len(s) != 63 {
		t.Errorf("P6.1: the longer form isn't taken: %x", s)
	}
}

func TestEncodeGreatest(t *testing.T) {
	for _, c := range []struct {
		times    []int64
		greatest string
	}{
		{[]int64{5}, "\x00\x00\x00\x00\x00\x00\x00\x05"},
		{[]int64{5, 4}, "\x00\x00\x00\x00\x00\x00\x00\x05"},
		{[]int64{5, 4, 6}, "\x00\x00\x00\x00\x00\x00\x00\x06"},
		{[]int64{-5, -6, -4, -7}, "\xff\xff\xff\xff\xff\xff\xff\xfc"},
		{[]int64{math.MinInt64}, "\x80\x00\x00\x00\x00\x00\x00\x00"},
		{[]int64{math.MinInt64, -1}, "\xff\xff\xff\xff\xff\xff\xff\xff"},
		{[]int64{0, math.MaxInt64, math.MinInt64}, "\x7f\xff\xff\xff\xff\xff\xff\xff"},
	} {
		b := one()
		b.Records = nil
		for _, time := range c.times {
			b.Records = append(b.Records, api.Record{Time: time})
		}
		want, _ := encoding(b)
		expectFrame(t, "times", b, want, api.OK)
		if s := encoded(t, b); s[31:39] != c.greatest {
			t.Errorf("P6.1: the greatest of %d is %x", c.times, s[31:39])
		}
	}
}

// TestEncodeNumbers tries bases, producers and sequences at their edges with one record and with several.
func TestEncodeNumbers(t *testing.T) {
	count := map[api.Errno]int{}
	for _, base := range []int64{math.MinInt64, -1, 0, 1, api.MostOffset - 4, api.MostOffset - 3, api.MostOffset - 2, api.MostOffset - 1, api.MostOffset, api.MostOffset + 1, math.MaxInt64 - 1, math.MaxInt64} {
		for _, producer := range []int64{math.MinInt64, -2, -1, 0, 1, math.MaxInt64} {
			for _, seq := range []int32{math.MinInt32, -2, -1, 0, 1, math.MaxInt32} {
				for records := range 4 {
					b := api.Batch{Base: base, Producer: producer, Seq: seq, Records: make([]api.Record, records)}
					want, e := encoding(b)
					expectFrame(t, fmt.Sprintf("base %d, producer %d, seq %d, %d records", base, producer, seq, records), b, want, e)
					count[e]++
				}
			}
		}
	}
	if count[api.OK] == 0 || count[api.ErrNone] == 0 || count[api.ErrRange] == 0 || count[api.ErrOver] == 0 {
		t.Errorf("%v", count)
	}
}

func TestEncodeCounts(t *testing.T) {
	b := one()
	b.Records = make([]api.Record, 65536)
	want, e := encoding(b)
	expectFrame(t, "65536 records", b, want, e)
	b.Base = api.MostOffset - 65536
	want, e = encoding(b)
	expectFrame(t, "65536 records up to the last offset", b, want, e)
	if e != api.OK {
		t.Fatal(e)
	}
	b.Base++
	expectRefused(t, "65536 records beyond it", b, api.ErrOver)
	b.Base = 0
	b.Records = make([]api.Record, 65537)
	expectRefused(t, "65537 records", b, api.ErrMost)
	b.Records = make([]api.Record, 200000)
	expectRefused(t, "200000 records", b, api.ErrMost)
}

// TestEncodeOrder takes one cause after the other away from a batch that is refused for all of them.
func TestEncodeOrder(t *testing.T) {
	wrong := api.Record{Time: math.MinInt64, Headers: make([]api.Header, 1025)}
	b := api.Batch{Base: -1, Producer: 0, Seq: -1, Packed: true}
	expectRefused(t, "none", b, api.ErrNone)
	b.Records = slices.Repeat([]api.Record{wrong}, 65537)
	b.Records[0] = api.Record{Time: 1}
	expectRefused(t, "too many", b, api.ErrMost)
	b.Records = b.Records[:65536]
	expectRefused(t, "base and producer", b, api.ErrRange)
	b.Base = api.MostOffset - 1
	expectRefused(t, "producer", b, api.ErrRange)
	b.Producer = -1
	expectRefused(t, "offsets", b, api.ErrOver)
	b.Base = 0
	expectRefused(t, "times", b, api.ErrDelta)
	b.Records[0].Time = math.MinInt64
	expectRefused(t, "headers", b, api.ErrMost)
}

func TestEncodeRecordsRefused(t *testing.T) {
	right := api.Record{Time: 1}
	delta := api.Record{Time: math.MinInt64}
	most := api.Record{Time: 1, Headers: make([]api.Header, 1025)}
	big := api.Record{Time: 1, Value: some(strings.Repeat("v", api.MostPlain))}
	great := api.Record{Time: 1, Value: some(strings.Repeat("v", api.MostPlain-100))}
	for _, c := range []struct {
		name    string
		records []api.Record
		e       api.Errno
	}{
		{"the first of three", []api.Record{most, big, delta}, api.ErrMost},
		{"the first of three", []api.Record{big, delta, most}, api.ErrBig},
		{"the second", []api.Record{right, delta, most, big}, api.ErrDelta},
		{"the last", []api.Record{right, right, most}, api.ErrMost},
		{"all together", []api.Record{great, great}, api.ErrBig},
		{"one ahead of all together", []api.Record{great, great, delta}, api.ErrDelta},
		{"one ahead of all together", []api.Record{right, great, great, great, most}, api.ErrMost},
	} {
		b := one()
		b.Records = c.records
		expectRefused(t, c.name, b, c.e)
		b.Packed = true
		expectFrame(t, c.name, b, "", c.e)
	}
}

// filled answers a batch whose records' bytes are size ones, if these are near MostPlain: then two lengths have 4 bytes each, and 5 stand there besides.
func filled(size int, packed bool) api.Batch {
	b := one()
	b.Packed = packed
	b.Records[0].Value = some(strings.Repeat("v", size-13))
	return b
}

func TestEncodeBig(t *testing.T) {
	b := filled(api.MostFrame-51, false)
	want, e := encoding(b)
	if len(want) != api.MostFrame || e != api.OK {
		t.Fatalf("%d, %d", len(want), e)
	}
	expectFrame(t, "the greatest plain frame", b, want, api.OK)
	expectRefused(t, "a frame too great by 1", filled(api.MostFrame-50, false), api.ErrBig)
	expectRefused(t, "the greatest records", filled(api.MostPlain, false), api.ErrBig)
	b = filled(api.MostPlain, true)
	want, e = encoding(b)
	if e != api.OK {
		t.Fatal(e)
	}
	expectFrame(t, "the greatest records, packed", b, want, api.OK)
	expectFrame(t, "records too great by 1, packed", filled(api.MostPlain+1, true), "", api.ErrBig)
	b.Records = append(b.Records, api.Record{Time: 5})
	expectFrame(t, "records too great by another record, packed", b, "", api.ErrBig)
}

// unlike answers bytes in which no four stand twice within a window: every four have a pair of a great and a small one, and these count up.
func unlike(size int) string {
	out := make([]byte, size)
	for i := range out {
		pair := i / 2
		out[i] = byte(pair % 128)
		if i%2 == 0 {
			out[i] = byte(128 + pair/128%128)
		}
	}
	return string(out)
}

// TestEncodeBigPacked packs what has no matches: the packed form is the longer one, and may be too great for a frame though the records are not.
func TestEncodeBigPacked(t *testing.T) {
	size := api.MostPlain
	for lz.Bound(size)+55 > api.MostFrame {
		size--
	}
	b := one()
	b.Packed = true
	b.Records[0].Value = some(unlike(size - 13))
	want, e := encoding(b)
	if len(want) != api.MostFrame || e != api.OK {
		t.Fatalf("%d, %d", len(want), e)
	}
	expectFrame(t, "a packed form that fills a frame", b, want, api.OK)
	b.Records[0].Value = some(unlike(size - 12))
	expectRefused(t, "one byte more", b, api.ErrBig)
}

func TestEncodeMany(t *testing.T) {
	for seed := range uint64(600) {
		b := newDice(seed).batch()
		want, e := encoding(b)
		if e != api.OK {
			t.Fatalf("seed %d: %d", seed, e)
		}
		expectFrame(t, fmt.Sprint("seed ", seed), b, want, api.OK)
	}
}
