package batch_test

import (
	"fmt"
	"math"
	"slices"
	"strings"
	"testing"

	"gantry/api"
	"gantry/batch"
	"gantry/lz"
	"gantry/record"
)

// equal answers whether two records are one, a null's Data and all.
func equal(a, b api.Record) bool {
	return a.Time == b.Time && a.Key == b.Key && a.Value == b.Value && slices.Equal(a.Headers, b.Headers)
}

// expectTaken holds Check and Decode against the chapter's words, and answers the error.
func expectTaken(t *testing.T, name, src string, frame, plain int) api.Errno {
	t.Helper()
	head, records, e := checking(src, frame, plain)
	if got, f := batch.Check(src, frame, plain); got != head || f != e {
		t.Errorf("P6.3: %s: Check: %+v, %d, want %+v, %d", name, got, f, head, e)
	}
	want := api.Batch{Base: head.Base, Packed: head.Packed, Producer: head.Producer, Seq: head.Seq}
	got, n, f := batch.Decode(src, frame, plain)
	if f != e || n != head.Length || !slices.EqualFunc(got.Records, records, equal) {
		t.Errorf("P6.4: %s: Decode: %d records, %d bytes, %d, want %d, %d, %d", name, len(got.Records), n, f, len(records), head.Length, e)
	}
	got.Records = nil
	if got.Base != want.Base || got.Packed != want.Packed || got.Producer != want.Producer || got.Seq != want.Seq {
		t.Errorf("P6.4: %s: Decode: %+v, want %+v", name, got, want)
	}
	return e
}

// expectCheck holds Check and Decode under the greatest limits against the chapter's words, and these against the error.
func expectCheck(t *testing.T, name, src string, e api.Errno) {
	t.Helper()
	expectWithin(t, name, src, api.MostFrame, api.MostPlain, e)
}

func expectWithin(t *testing.T, name, src string, frame, plain int, e api.Errno) {
	t.Helper()
	if got := expectTaken(t, name, src, frame, plain); got != e {
		t.Errorf("P6.3: %s (frame %d, plain %d): %d, want %d", name, frame, plain, got, e)
	}
}

func TestCheckExamples(t *testing.T) {
	s := encoded(t, one())
	want := api.Head{Base: 3, Length: 58, Count: 1, First: 5, Greatest: 5, Producer: -1, Seq: -1}
	for _, behind := range []string{"", "x", s, strings.Repeat("\xff", 100)} {
		if h, e := batch.Check(s+behind, 58, 7); h != want || e != api.OK || batch.Behind(h) != 4 {
			t.Errorf("P6.3: %+v, %d", h, e)
		}
		b, n, e := batch.Decode(s+behind, 58, 7)
		if !batch.Same(b, one()) || n != 58 || e != api.OK {
			t.Errorf("P6.4: %+v, %d, %d", b, n, e)
		}
	}
	expectWithin(t, "a byte is missing", s[:57], 58, 7, api.ErrShort)
	expectWithin(t, "none", "", 58, 7, api.ErrShort)
	expectWithin(t, "another mark", s[:12]+"H"+s[13:], 58, 7, api.ErrBatch)
	b := one()
	b.Packed = true
	expectCheck(t, "packed", encoded(t, b), api.OK)
}

func TestCheckCut(t *testing.T) {
	for _, b := range []api.Batch{one(), three(false), three(true)} {
		s := encoded(t, b)
		for n := range s {
			expectCheck(t, "cut", s[:n], api.ErrShort)
		}
	}
}

// TestCheckBits turns every bit of a frame.
func TestCheckBits(t *testing.T) {
	for _, b := range []api.Batch{one(), three(false), three(true)} {
		frame := []byte(encoded(t, b))
		for i := range frame {
			for bit := range 8 {
				frame[i] ^= 1 << bit
				e := expectTaken(t, "a bit", string(frame), api.MostFrame, api.MostPlain)
				if i >= 12 && e == api.OK {
					t.Errorf("P6.3: bit %d of byte %d is turned, and the frame is taken", bit, i)
				}
				if i >= 51 && e != api.ErrSum {
					t.Errorf("P6.3: bit %d of byte %d is turned: %d", bit, i, e)
				}
				frame[i] ^= 1 << bit
			}
		}
	}
}

// TestCheckBase sees to it that the base offset is not under the sum, and told as it stands there.
func TestCheckBase(t *testing.T) {
	s := encoded(t, three(true))
	for _, base := range []string{"\x00\x00\x00\x00\x00\x00\x00\x00", "\x12\x34\x56\x78\x9a\xbc\xde\xf0", "\x3f\xff\xff\xff\xff\xff\xff\xfd"} {
		expectCheck(t, "another base", base+s[8:], api.OK)
	}
	for _, base := range []string{"\x3f\xff\xff\xff\xff\xff\xff\xfe", "\x40\x00\x00\x00\x00\x00\x00\x00", "\xff\xff\xff\xff\xff\xff\xff\xff"} {
		expectCheck(t, "a wrong base", base+s[8:], api.ErrBatch)
	}
}

func TestCheckLimits(t *testing.T) {
	for _, b := range []api.Batch{one(), three(false), three(true)} {
		s := encoded(t, b)
		body, _ := record.Body(b.Records)
		for _, frame := range []int{math.MinInt, -1, 0, 57, 58, 59, len(s) - 1, len(s), len(s) + 1, api.MostFrame, api.MostFrame + 1, math.MaxInt} {
			for _, plain := range []int{math.MinInt, -1, 0, 6, 7, 8, len(body) - 1, len(body), len(body) + 1, api.MostPlain, api.MostPlain + 1, math.MaxInt} {
				want := api.OK
				if max(frame, 58) < len(s) || max(plain, 7) < len(body) {
					want = api.ErrBig
				}
				expectWithin(t, "limits", s, frame, plain, want)
			}
		}
	}
}

// TestCheckGreat takes the greatest frame and the greatest records, and the limits above them count as these.
func TestCheckGreat(t *testing.T) {
	for _, b := range []api.Batch{filled(api.MostFrame-51, false), filled(api.MostPlain, true)} {
		s := encoded(t, b)
		body, _ := record.Body(b.Records)
		expectCheck(t, "great", s, api.OK)
		expectWithin(t, "great", s, math.MaxInt, math.MaxInt, api.OK)
		expectWithin(t, "great", s, len(s), len(body), api.OK)
		expectWithin(t, "great", s, len(s)-1, len(body), api.ErrBig)
		expectWithin(t, "great", s, len(s), len(body)-1, api.ErrBig)
	}
	body := strings.Repeat("v", api.MostPlain+1)
	p := piecesOf(three(true), packedForm(body, lz.Pack(body)))
	expectWithin(t, "records beyond the most", p.frame(), math.MaxInt, math.MaxInt, api.ErrBig)
}

// TestCheckOrder takes one fault after the other away from a frame that has them all.
func TestCheckOrder(t *testing.T) {
	for _, packed := range []bool{false, true} {
		s := encoded(t, three(packed))
		body, _ := record.Body(three(packed).Records)
		wrong := s[:13] + "sum?" + s[17:]
		small, cut := len(s)-1, len(s)-1
		expectWithin(t, "all", wrong[:12]+"\x00"+wrong[13:cut], small, 7, api.ErrBatch)
		expectWithin(t, "all but the head", wrong[:cut], small, 7, api.ErrBig)
		expectWithin(t, "cut, sum and records", wrong[:cut], len(s), 7, api.ErrShort)
		expectWithin(t, "sum and records", wrong, len(s), 7, api.ErrSum)
		expectWithin(t, "records", s, len(s), len(body)-1, api.ErrBig)
		expectWithin(t, "nothing", s, len(s), len(body), api.OK)
	}
}

// reading is a case of records' bytes and the head's times, and what they are answered, plain and packed.
type reading struct {
	name            string
	body            string
	count           uint32
	first, greatest int64
	e               api.Errno
}

func readings() []reading {
	body, _ := record.Body(three(false).Records)
	second := "\x06\x00\x02\x01\x01\x01\x00" // number 1, a time later by 1
	return []reading{
		{"right", body, 3, 10, 20, api.OK},
		{"one too few", body, 2, 10, 20, api.ErrLeft},
		{"two too few", body, 1, 10, 20, api.ErrLeft},
		{"one too many", body, 4, 10, 20, api.ErrShort},
		{"many too many", body, 65536, 10, 20, api.ErrShort},
		{"bytes are left", body + "\x00", 3, 10, 20, api.ErrLeft},
		{"bytes are left, and the greatest is wrong", body + "\x00", 3, 10, 21, api.ErrLeft},
		{"bytes are missing", body[:len(body)-1], 3, 10, 20, api.ErrLong},
		{"a record is wrong, and the greatest", body[:len(body)-1], 3, 10, 21, api.ErrLong},
		{"the greatest is too great", body, 3, 10, 21, api.ErrBatch},
		{"the greatest is too small", body, 3, 10, 19, api.ErrBatch},
		{"the greatest is the first", body, 3, 10, 10, api.ErrBatch},
		{"another first moves all times", body, 3, 11, 21, api.OK},
		{"another first alone", body, 3, 11, 20, api.ErrBatch},
		{"the greatest time is the last", leastRecord + second, 2, 5, 6, api.OK},
		{"the greatest time is not the last", leastRecord + second, 2, 5, 5, api.ErrBatch},
		{"all times below 0", leastRecord + second, 2, -9, -8, api.OK},
		{"all times below 0, the greatest 0", leastRecord + second, 2, -9, 0, api.ErrBatch},
		{"the first is later", "\x06\x00\x02\x00\x01\x01\x00", 1, 5, 6, api.ErrBatch},
		{"the first is later", "\x06\x00\x02\x00\x01\x01\x00", 1, 5, 5, api.ErrBatch},
		{"the first is earlier", "\x06\x00\x01\x00\x01\x01\x00", 1, 5, 5, api.ErrBatch},
		{"the first is earlier, the second the first", "\x06\x00\x01\x00\x01\x01\x00\x06\x00\x00\x01\x01\x01\x00", 2, 5, 5, api.ErrBatch},
		{"the first is later, and bytes are left", "\x06\x00\x02\x00\x01\x01\x00\x00", 1, 5, 6, api.ErrLeft},
		{"the first is later, and the second wrong", "\x06\x00\x02\x00\x01\x01\x00\x06\x01\x00\x01\x01\x01\x00", 2, 5, 6, api.ErrRecord},
		{"no second time is there", leastRecord + second, 2, math.MaxInt64, math.MaxInt64, api.ErrDelta},
		{"the last times", leastRecord + second, 2, math.MaxInt64 - 1, math.MaxInt64, api.OK},
		{"the first times", leastRecord + second, 2, math.MinInt64, math.MinInt64 + 1, api.OK},
		{"attributes", "\x06\x01\x00\x00\x01\x01\x00", 1, 5, 5, api.ErrRecord},
		{"a number of another", "\x06\x00\x00\x01\x01\x01\x00", 1, 5, 5, api.ErrDelta},
		{"the first twice", leastRecord + leastRecord, 2, 5, 5, api.ErrDelta},
		{"a second number left out", leastRecord + "\x06\x00\x00\x02\x01\x01\x00", 2, 5, 5, api.ErrDelta},
		{"a form of its own bytes too few", "\x05\x00\x00\x00\x01\x01\x00", 1, 5, 5, api.ErrShort},
		{"a form of its own bytes too many", "\x07\x00\x00\x00\x01\x01\x00\x00", 1, 5, 5, api.ErrRecord},
		{"a number spelled too long", "\x07\x00\x80\x00\x00\x01\x01\x00", 1, 5, 5, api.ErrVarint},
		{"a length spelled too long", "\x86\x00\x00\x00\x00\x01\x01\x00", 1, 5, 5, api.ErrVarint},
		{"too many headers", "\x07\x00\x00\x00\x01\x01\x81\x08", 1, 5, 5, api.ErrMost},
		{"a key below null", "\x07\x00\x00\x00\x03\x01\x00\x00", 1, 5, 5, api.ErrLong},
		{"a length beyond all", "\x80\x80\x80\x80\x80\x80\x80", 1, 5, 5, api.ErrShort},
		{"the longest length", "\xff\xff\xff\xff\xff\xff\xff\xff\xff\x01", 1, 5, 5, api.ErrLong},
	}
}

// TestCheckRecords puts each case into a plain frame and into packed ones, by Pack and by literals alone.
func TestCheckRecords(t *testing.T) {
	for _, c := range readings() {
		p := pieces{base: 4, mark: 71, count: c.count, first: c.first, greatest: c.greatest, producer: 1, seq: 1, stored: c.body}
		expectCheck(t, c.name, p.fitted().frame()+leastRecord, c.e)
		p.flags = 1
		p.stored = packedForm(c.body, lz.Pack(c.body))
		expectCheck(t, c.name+", packed", p.fitted().frame()+leastRecord, c.e)
		p.stored = packedForm(c.body, literals(c.body))
		expectCheck(t, c.name+", packed by literals", p.fitted().frame()+leastRecord, c.e)
	}
}

// literals is a packed form of s without a match.
func literals(s string) string {
	var tokens []lz.Token
	for piece := range slices.Chunk([]byte(s), 100) {
		tokens = append(tokens, lz.Token{Literals: string(piece)})
	}
	form, _ := lz.Form(tokens)
	return form
}

func TestCheckPacked(t *testing.T) {
	b := three(true)
	body, _ := record.Body(b.Records)
	packed := lz.Pack(body)
	number := func(n int) string { return packedForm(strings.Repeat(" ", n), "") }
	for _, c := range []struct {
		name   string
		stored string
		plain  int
		e      api.Errno
	}{
		{"right", number(len(body)) + packed, len(body), api.OK},
		{"a number too small", number(len(body)-1) + packed, len(body), api.ErrPacked},
		{"a number too great", number(len(body)+1) + packed, len(body) + 1, api.ErrPacked},
		{"a number above plain", number(len(body)+1) + packed, len(body), api.ErrBig},
		{"a number above plain, and no packed form", number(len(body)+1) + "\x80\x00\x00\x80", len(body), api.ErrBig},
		{"the number 0", number(0) + packed, len(body), api.ErrPacked},
		{"the greatest number", "\xff\xff\xff\xff" + packed, math.MaxInt, api.ErrBig},
		{"a number below 0, if it were signed", "\x80\x00\x00\x00" + packed, math.MaxInt, api.ErrBig},
		{"the most of a number", "\x01\x00\x00\x00" + packed, math.MaxInt, api.ErrPacked},
		{"above the most of a number", "\x01\x00\x00\x01" + packed, math.MaxInt, api.ErrBig},
		{"cut", number(len(body)) + packed[:len(packed)-1], len(body), api.ErrPacked},
		{"a token more", number(len(body)) + packed + "\x00a", len(body), api.ErrPacked},
		{"a match that reaches too far", number(7) + "\x80\x00\x01\x02abc", len(body), api.ErrPacked},
		{"a distance of 0", number(5) + "\x00a\x80\x00\x00", len(body), api.ErrPacked},
		{"a distance above the window", number(5) + "\x00a\x80\x20\x01", len(body), api.ErrPacked},
		{"a plain body", body, math.MaxInt, api.ErrBig},
		{"no records, but what unpacks", number(5) + "\x00\x00\x80\x00\x01", len(body), api.ErrShort},
	} {
		expectWithin(t, c.name, piecesOf(b, c.stored).frame(), api.MostFrame, c.plain, c.e)
	}
	for n := range 4 {
		// So few bytes make no frame that Peek takes; the order stays.
		expectCheck(t, "no number", piecesOf(b, strings.Repeat("\x00", n)).frame(), api.ErrBatch)
	}
}

// TestCheckPlainAsPacked turns the flags alone: what was stored is another thing then.
func TestCheckPlainAsPacked(t *testing.T) {
	for _, packed := range []bool{false, true} {
		p, _ := split(encoded(t, three(packed)))
		p.flags ^= 1
		if e := expectTaken(t, "flags turned", p.frame(), api.MostFrame, api.MostPlain); e == api.OK {
			t.Error("P6.3: the flags are turned, and the frame is taken")
		}
	}
}

func TestDecodeIsSame(t *testing.T) {
	for seed := range uint64(500) {
		d := newDice(seed)
		b := d.batch()
		s := encoded(t, b)
		got, n, e := batch.Decode(s+d.text(), api.MostFrame, api.MostPlain)
		if e != api.OK || n != len(s) || !batch.Same(got, b) {
			t.Fatalf("P6.5: seed %d: %d bytes of %d, %d", seed, n, len(s), e)
		}
		for _, r := range got.Records {
			if !equal(r, record.Copy(r)) {
				t.Fatalf("P6.4: seed %d: a null has Data: %+v", seed, r)
			}
		}
		if again := encoded(t, got); again != s {
			t.Fatalf("P6.5: seed %d: encoded again it is another frame", seed)
		}
	}
}

// TestCheckHarmed changes a frame's bytes and makes the length and the sum right again, so that the harm is met by what comes behind them.
func TestCheckHarmed(t *testing.T) {
	count := map[api.Errno]int{}
	for seed := range uint64(12000) {
		d := newDice(seed)
		b := d.batch()
		b.Records = b.Records[:min(len(b.Records), 5)]
		s := encoded(t, b)
		for range 1 + d.IntN(3) {
			s = d.harm(s, 51-d.IntN(2)*34)
		}
		if d.IntN(20) > 0 && len(s) >= 51 {
			p, _ := split(s)
			s = p.fitted().frame()
		}
		name := fmt.Sprint("seed ", seed)
		e := expectTaken(t, name, s+d.text(), api.MostFrame, api.MostPlain)
		expectTaken(t, name, s, len(s)-d.IntN(2), len(s)-51-d.IntN(2))
		count[e]++
		got, n, _ := batch.Decode(s, api.MostFrame, api.MostPlain)
		if e == api.OK && !got.Packed {
			if again, f := batch.Encode(got); f != api.OK || again != s[:n] {
				t.Errorf("P6.5: seed %d: encoded again it is another frame, %d", seed, f)
			}
		}
	}
	for _, e := range []api.Errno{api.OK, api.ErrShort, api.ErrLong, api.ErrLeft, api.ErrVarint, api.ErrSum, api.ErrPacked, api.ErrRecord, api.ErrDelta, api.ErrBatch} {
		if count[e] < 10 {
			t.Errorf("the error %d is met %d times only", e, count[e])
		}
	}
}

// TestDecodePackedOtherwise takes a packed frame that Pack would not have made; the batch is the same, the bytes need not be.
func TestDecodePackedOtherwise(t *testing.T) {
	b := three(true)
	body, _ := record.Body(b.Records)
	s := piecesOf(b, packedForm(body, literals(body))).frame()
	got, n, e := batch.Decode(s, api.MostFrame, api.MostPlain)
	if e != api.OK || n != len(s) || !batch.Same(got, b) {
		t.Errorf("P6.3: %d of %d bytes, %d", n, len(s), e)
	}
	if again := encoded(t, got); again == s {
		t.Error("the frame is packed by Pack after all")
	}
}
