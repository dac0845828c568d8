package batch_test

import (
	"runtime"
	"slices"
	"strings"
	"testing"

	"gantry/api"
	"gantry/batch"
	"gantry/record"
)

// taken answers how many bytes of memory a call lays hold of, those that it lets go again too.
func taken(call func()) uint64 {
	var ahead, behind runtime.MemStats
	runtime.ReadMemStats(&ahead)
	call()
	runtime.ReadMemStats(&behind)
	return behind.TotalAlloc - ahead.TotalAlloc
}

// TestMemoryOfNumbers hands in small frames with great numbers that nothing bears out: none of these may be believed.
func TestMemoryOfNumbers(t *testing.T) {
	least := pieces{mark: 71, count: 65536, producer: -1, seq: -1, stored: leastRecord}
	packed := pieces{mark: 71, flags: 1, count: 65536, producer: -1, seq: -1}
	unborn, great, headers := packed, least, least
	unborn.stored = "\x01\x00\x00\x00\x00a\xff\x00\x01"
	packed.stored = packedForm(leastRecord, "\x06"+leastRecord)
	great.length, great.count = api.MostFrame-12, 1
	headers.count, headers.stored = 1, "\x07\x00\x00\x00\x01\x01\x80\x08"
	for _, c := range []struct {
		name string
		src  string
		e    api.Errno
	}{
		{"a count", least.fitted().frame(), api.ErrShort},
		{"a count, packed", packed.fitted().frame(), api.ErrShort},
		{"a number of bytes", unborn.fitted().frame(), api.ErrPacked},
		{"a length", great.frame(), api.ErrShort},
		{"a number of headers", headers.fitted().frame(), api.ErrShort},
	} {
		var e, f api.Errno
		check := taken(func() { _, e = batch.Check(c.src, api.MostFrame, api.MostPlain) })
		decode := taken(func() { _, _, f = batch.Decode(c.src, api.MostFrame, api.MostPlain) })
		if e != c.e || f != c.e || check > 20000 || decode > 20000 {
			t.Errorf("P6.9: %s: Check takes %d bytes (%d), Decode %d (%d)", c.name, check, e, decode, f)
		}
	}
}

// TestMemoryOfRecords hands in a frame of many small records: Check, and Decode where it refuses the frame, keep none of them.
func TestMemoryOfRecords(t *testing.T) {
	b := one()
	b.Records = make([]api.Record, api.MostRecords)
	s := encoded(t, b)
	p, _ := split(s)
	p.greatest++
	wrong := p.frame()
	most := uint64(14 * len(s))
	var e, f, g api.Errno
	if n := taken(func() { _, e = batch.Check(s, len(s), len(s)) }); e != api.OK || n > most {
		t.Errorf("P6.9: Check of %d bytes takes %d (%d)", len(s), n, e)
	}
	if n := taken(func() { _, _, f = batch.Decode(wrong, len(s), len(s)) }); f != api.ErrBatch || n > most {
		t.Errorf("P6.9: Decode of %d wrong bytes takes %d (%d)", len(s), n, f)
	}
	answered := uint64(len(b.Records) * 100)
	if n := taken(func() { _, _, g = batch.Decode(s, len(s), len(s)) }); g != api.OK || n > 2*(most+answered) {
		t.Errorf("P6.9: Decode of %d bytes takes %d (%d)", len(s), n, g)
	}
}

// TestMemoryOfTexts hands in great texts, plain and packed.
func TestMemoryOfTexts(t *testing.T) {
	for _, b := range []api.Batch{filled(api.MostFrame-51, false), filled(api.MostPlain, true)} {
		s := encoded(t, b)
		var e api.Errno
		if n := taken(func() { _, e = batch.Check(s, api.MostFrame, api.MostPlain) }); e != api.OK || n > 3*api.MostPlain {
			t.Errorf("P6.9: Check takes %d (%d)", n, e)
		}
		if n := taken(func() { _, _, e = batch.Decode(s, api.MostFrame, api.MostPlain) }); e != api.OK || n > 4*api.MostPlain {
			t.Errorf("P6.9: Decode takes %d (%d)", n, e)
		}
	}
}

// TestHandedInStays sees to it that what is handed in is left as it is, spare room and nulls' Data too.
func TestHandedInStays(t *testing.T) {
	b := three(true)
	records := append(b.Records, api.Record{Time: 1, Key: some("spare")})
	headers := append(records[1].Headers, api.Header{Key: "spare"})
	records[1].Headers, records[1].Key.Data = headers[:3], "null"
	wantRecords, wantHeaders := slices.Clone(records), slices.Clone(headers)
	b.Records = records[:3]
	batch.Encode(b)
	batch.Size(b)
	batch.Same(b, b)
	if !slices.EqualFunc(records, wantRecords, equal) || !slices.Equal(headers, wantHeaders) {
		t.Errorf("R3: what was handed in is changed: %+v", records)
	}
}

// TestAnswersApart writes over one answer, and into its spare room, and looks at the others.
func TestAnswersApart(t *testing.T) {
	b := three(false)
	b.Records[0].Headers = []api.Header{{Key: "a"}, {Key: "b"}}
	b.Records[2].Headers = []api.Header{{Key: "c"}}
	s := encoded(t, b)
	first, _, _ := batch.Decode(s, api.MostFrame, api.MostPlain)
	second, _, _ := batch.Decode(s, api.MostFrame, api.MostPlain)
	for i := range first.Records {
		kept := make([]api.Record, 0, 3)
		for _, r := range first.Records {
			kept = append(kept, record.Copy(r))
		}
		list := first.Records[i].Headers
		list = list[:cap(list)]
		for k := range list {
			list[k] = api.Header{Key: strings.Repeat("over", i+1)}
		}
		for k, r := range first.Records {
			if k != i && !record.Same(r, kept[k]) {
				t.Errorf("R3: the headers of the records %d and %d share memory", i, k)
			}
		}
	}
	clear(first.Records[:cap(first.Records)])
	if !batch.Same(second, b) {
		t.Errorf("R3: two answers share memory: %+v", second)
	}
}
