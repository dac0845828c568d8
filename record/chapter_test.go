package record_test

import (
	"encoding/binary"
	"math/big"
	"math/rand/v2"
	"strings"

	"gantry/api"
)

// The functions here are what the chapter says, word by word: what is tested is held against them.

// formOf is Bytes of P5.1.
func formOf(r api.Record, first int64, n int) (string, api.Errno) {
	delta := new(big.Int).Sub(big.NewInt(r.Time), big.NewInt(first))
	switch {
	case n < 0 || n >= 65536:
		return "", api.ErrRange
	case !delta.IsInt64():
		return "", api.ErrDelta
	case len(r.Headers) > 1024:
		return "", api.ErrMost
	}
	own := binary.AppendVarint([]byte{0}, delta.Int64())
	own = binary.AppendUvarint(own, uint64(n))
	own = appendOpt(appendOpt(own, r.Key), r.Value)
	own = binary.AppendUvarint(own, uint64(len(r.Headers)))
	for _, h := range r.Headers {
		own = binary.AppendUvarint(own, uint64(len(h.Key)))
		own = appendOpt(append(own, h.Key...), h.Value)
	}
	form := sized(string(own))
	if len(form) > 16777216 {
		return "", api.ErrBig
	}
	return form, api.OK
}

func appendOpt(out []byte, o api.Opt) []byte {
	if !o.Has {
		return binary.AppendVarint(out, -1)
	}
	return append(binary.AppendVarint(out, int64(len(o.Data))), o.Data...)
}

// sized is a form's own bytes with their number ahead of them.
func sized(own string) string {
	return string(binary.AppendUvarint(nil, uint64(len(own)))) + own
}

// bodyOf is Body of P5.3.
func bodyOf(records []api.Record) (string, api.Errno) {
	if len(records) == 0 || len(records) > 65536 {
		return "", api.ErrBatch
	}
	var out strings.Builder
	for n, r := range records {
		s, e := formOf(r, records[0].Time, n)
		if e != api.OK {
			return "", e
		}
		out.WriteString(s)
	}
	if out.Len() > 16777216 {
		return "", api.ErrBig
	}
	return out.String(), api.OK
}

// tape is bytes that are read from their beginning on; a call that can't read panics with the error.
type tape string

func (t *tape) take(n int) string {
	s := string(*t)[:n]
	*t = (*t)[n:]
	return s
}

func (t *tape) u8() byte {
	if len(*t) == 0 {
		panic(api.ErrShort)
	}
	return t.take(1)[0]
}

func (t *tape) uvarint() uint64 {
	var v uint64
	for i := 0; ; i++ {
		b := t.u8()
		if i == 9 && b > 1 || i > 0 && b == 0 {
			panic(api.ErrVarint)
		}
		v += uint64(b%128) << (7 * i)
		if b < 128 {
			return v
		}
	}
}

func (t *tape) varint() int64 {
	u := t.uvarint()
	if u%2 == 0 {
		return int64(u / 2)
	}
	return -int64(u/2) - 1
}

func (t *tape) text() string {
	n := t.uvarint()
	if n > uint64(len(*t)) {
		panic(api.ErrLong)
	}
	return t.take(int(n))
}

func (t *tape) opt() api.Opt {
	n := t.varint()
	if n == -1 {
		return api.Opt{}
	}
	if n < -1 || n > int64(len(*t)) {
		panic(api.ErrLong)
	}
	return some(t.take(int(n)))
}

func stopIf(wrong bool, e api.Errno) {
	if wrong {
		panic(e)
	}
}

// readingOf is Read of P5.2.
func readingOf(s string, first int64, n int) (r api.Record, size int, e api.Errno) {
	if n < 0 || n >= 65536 {
		return api.Record{}, 0, api.ErrRange
	}
	defer func() {
		if why := recover(); why != nil {
			r, size, e = api.Record{}, 0, why.(api.Errno)
		}
	}()
	left := tape(s)
	length := left.uvarint()
	stopIf(length > uint64(len(left)), api.ErrLong)
	own := tape(left.take(int(length)))
	stopIf(own.u8() != 0, api.ErrRecord)
	time := new(big.Int).Add(big.NewInt(first), big.NewInt(own.varint()))
	stopIf(!time.IsInt64(), api.ErrDelta)
	r.Time = time.Int64()
	stopIf(own.uvarint() != uint64(n), api.ErrDelta)
	r.Key = own.opt()
	r.Value = own.opt()
	count := own.uvarint()
	stopIf(count > 1024, api.ErrMost)
	for range count {
		key := own.text()
		r.Headers = append(r.Headers, api.Header{Key: key, Value: own.opt()})
	}
	stopIf(len(own) > 0, api.ErrRecord)
	size = len(s) - len(left)
	stopIf(size > 16777216, api.ErrBig)
	return r, size, api.OK
}

// readingBody is ReadBody of P5.4.
func readingBody(s string, first int64, count int) ([]api.Record, api.Errno) {
	if count < 1 || count > 65536 {
		return nil, api.ErrBatch
	}
	if len(s) > 16777216 {
		return nil, api.ErrBig
	}
	var out []api.Record
	for n := range count {
		r, size, e := readingOf(s, first, n)
		if e != api.OK {
			return nil, e
		}
		if n == 0 && r.Time != first {
			return nil, api.ErrDelta
		}
		out, s = append(out, r), s[size:]
	}
	if s != "" {
		return nil, api.ErrLeft
	}
	return out, api.OK
}

func some(data string) api.Opt { return api.Opt{Has: true, Data: data} }

// dice chooses records.
type dice struct {
	*rand.Rand
}

func newDice(seed uint64) dice { return dice{rand.New(rand.NewPCG(seed, 5))} }

func (d dice) text() string {
	s := make([]byte, d.IntN([]int{1, 4, 80, 300}[d.IntN(4)]))
	for i := range s {
		s[i] = byte(d.Uint32())
	}
	return string(s)
}

// opt is null at times, and then carries Data that is to be passed over.
func (d dice) opt() api.Opt { return api.Opt{Has: d.IntN(3) > 0, Data: d.text()} }

func (d dice) time() int64 {
	v := int64(d.Uint64())
	// Times of few bits and of many, so that differences of all sizes come about, and some that don't fit.
	return v >> (d.IntN(2) * d.IntN(64))
}

func (d dice) record() api.Record {
	r := api.Record{Time: d.time(), Key: d.opt(), Value: d.opt()}
	for range d.IntN([]int{1, 2, 6, 200}[d.IntN(4)]) {
		r.Headers = append(r.Headers, api.Header{Key: d.text(), Value: d.opt()})
	}
	return r
}

// near answers records whose times lie near one another, so that all differences fit.
func (d dice) near(count int) []api.Record {
	out := make([]api.Record, count)
	for i := range out {
		out[i] = d.record()
		out[i].Time >>= 1
	}
	return out
}

// harm answers s with a byte changed, taken away or put in, or cut.
func (d dice) harm(s string) string {
	at := d.IntN(len(s) + 1)
	put := string([]byte{byte([]uint32{d.Uint32(), d.Uint32N(12), 0x80 | d.Uint32()}[d.IntN(3)])})
	switch {
	case d.IntN(4) == 0:
		return s[:at] + put + s[at:]
	case at == len(s):
		return s + put
	case d.IntN(3) == 0:
		return s[:at] + s[at+1:]
	case d.IntN(8) == 0:
		return s[:at]
	}
	return s[:at] + put + s[at+1:]
}
