package batch_test

import (
	"encoding/binary"
	"hash/crc32"
	"math/big"
	"math/rand/v2"
	"strings"

	"gantry/api"
	"gantry/lz"
	"gantry/record"
)

// The functions here are what the chapter says, word by word: what is tested is held against them.

// pieces are a frame's fields, whatever they are, and what stands behind its head.
type pieces struct {
	base            int64
	length          uint32
	mark            byte
	flags           uint16
	count           uint32
	first, greatest int64
	producer        int64
	seq             int32
	stored          string
}

// frame is the table of DOC.md, with the right sum.
func (p pieces) frame() string {
	under := binary.BigEndian.AppendUint16(nil, p.flags)
	under = binary.BigEndian.AppendUint32(under, p.count)
	under = binary.BigEndian.AppendUint64(under, uint64(p.first))
	under = binary.BigEndian.AppendUint64(under, uint64(p.greatest))
	under = binary.BigEndian.AppendUint64(under, uint64(p.producer))
	under = binary.BigEndian.AppendUint32(under, uint32(p.seq))
	under = append(under, p.stored...)
	out := binary.BigEndian.AppendUint64(nil, uint64(p.base))
	out = binary.BigEndian.AppendUint32(out, p.length)
	out = append(out, p.mark)
	out = binary.BigEndian.AppendUint32(out, sumOf(string(under)))
	return string(append(out, under...))
}

func sumOf(s string) uint32 {
	return crc32.Checksum([]byte(s), crc32.MakeTable(crc32.Castagnoli))
}

// sealed answers src with the right sum over all bytes from 17 on.
func sealed(src string) string {
	return src[:13] + string(binary.BigEndian.AppendUint32(nil, sumOf(src[17:]))) + src[17:]
}

// fitted answers p with the length that what it has stored makes.
func (p pieces) fitted() pieces {
	p.length = uint32(39 + len(p.stored))
	return p
}

// piecesOf answers the pieces of a batch that is not refused.
func piecesOf(b api.Batch, stored string) pieces {
	p := pieces{base: b.Base, mark: 71, count: uint32(len(b.Records)), producer: b.Producer, seq: b.Seq, stored: stored}
	if b.Packed {
		p.flags = 1
	}
	p.first, p.greatest = b.Records[0].Time, b.Records[0].Time
	for _, r := range b.Records {
		p.greatest = max(p.greatest, r.Time)
	}
	return p.fitted()
}

func producerIsWrong(producer int64, seq int32) bool {
	return producer < -1 || producer == -1 && seq != -1 || producer >= 0 && seq < 0
}

// lastIsOver answers whether the last offset of count records from base on isn't below 2^62.
func lastIsOver(base int64, count uint32) bool {
	last := new(big.Int).Add(big.NewInt(base), big.NewInt(int64(count)-1))
	return last.Cmp(new(big.Int).Lsh(big.NewInt(1), 62)) >= 0
}

// encoding is Encode of P6.1.
func encoding(b api.Batch) (string, api.Errno) {
	switch {
	case len(b.Records) == 0:
		return "", api.ErrNone
	case len(b.Records) > 65536:
		return "", api.ErrMost
	case b.Base < 0 || b.Base >= 1<<62 || producerIsWrong(b.Producer, b.Seq):
		return "", api.ErrRange
	case lastIsOver(b.Base, uint32(len(b.Records))):
		return "", api.ErrOver
	}
	var body strings.Builder
	for n, r := range b.Records {
		s, e := record.Bytes(r, b.Records[0].Time, n)
		if e != api.OK {
			return "", e
		}
		body.WriteString(s)
	}
	if body.Len() > 16777216 {
		return "", api.ErrBig
	}
	stored := body.String()
	if b.Packed {
		stored = packedForm(stored, lz.Pack(stored))
	}
	if 51+len(stored) > 16777216 {
		return "", api.ErrBig
	}
	return piecesOf(b, stored).frame(), api.OK
}

// packedForm answers what a packed frame has behind its head.
func packedForm(body, packed string) string {
	return string(binary.BigEndian.AppendUint32(nil, uint32(len(body)))) + packed
}

// split answers the fields of the head that src begins with, and their sum.
func split(src string) (pieces, uint32) {
	n := func(at, size int) uint64 {
		var v uint64
		for _, b := range []byte(src[at : at+size]) {
			v = v<<8 | uint64(b)
		}
		return v
	}
	return pieces{
		base: int64(n(0, 8)), length: uint32(n(8, 4)), mark: byte(n(12, 1)), flags: uint16(n(17, 2)), count: uint32(n(19, 4)),
		first: int64(n(23, 8)), greatest: int64(n(31, 8)), producer: int64(n(39, 8)), seq: int32(n(47, 4)), stored: src[51:],
	}, uint32(n(13, 4))
}

// peeking is Peek of P6.2.
func peeking(src string) (api.Head, api.Errno) {
	if len(src) < 51 {
		return api.Head{}, api.ErrShort
	}
	p, _ := split(src)
	size := int64(p.length) + 12
	if p.mark != 71 || p.flags > 1 || p.count == 0 || p.count > 65536 || p.base < 0 || lastIsOver(p.base, p.count) ||
		p.first > p.greatest || producerIsWrong(p.producer, p.seq) || size < 58 || size > 16777216 {
		return api.Head{}, api.ErrBatch
	}
	return api.Head{Base: p.base, Length: int(size), Packed: p.flags == 1, Count: int(p.count), First: p.first, Greatest: p.greatest, Producer: p.producer, Seq: p.seq}, api.OK
}

// limit counts a config's number as DOC.md's 'Limits' says.
func limit(n, least, most int) int {
	if n < least {
		return least
	}
	if n > most {
		return most
	}
	return n
}

// checking is Check of P6.3, and the records that Decode of P6.4 answers.
func checking(src string, frame, plain int) (api.Head, []api.Record, api.Errno) {
	h, e := peeking(src)
	if e != api.OK {
		return api.Head{}, nil, e
	}
	_, sum := split(src)
	switch {
	case h.Length > limit(frame, 58, 16777216):
		return api.Head{}, nil, api.ErrBig
	case len(src) < h.Length:
		return api.Head{}, nil, api.ErrShort
	case sumOf(src[17:h.Length]) != sum:
		return api.Head{}, nil, api.ErrSum
	}
	body, e := bodyOf(src[51:h.Length], h.Packed, limit(plain, 7, 16777216))
	if e != api.OK {
		return api.Head{}, nil, e
	}
	records, e := readingAll(body, h)
	if e != api.OK {
		return api.Head{}, nil, e
	}
	return h, records, api.OK
}

func bodyOf(stored string, packed bool, plain int) (string, api.Errno) {
	if !packed {
		if len(stored) > plain {
			return "", api.ErrBig
		}
		return stored, api.OK
	}
	if len(stored) < 4 {
		return "", api.ErrPacked
	}
	n := int64(binary.BigEndian.Uint32([]byte(stored[:4])))
	if n > int64(plain) {
		return "", api.ErrBig
	}
	body, e := lz.Unpack(stored[4:], int(n), int(n))
	if e != api.OK {
		return "", api.ErrPacked
	}
	return body, api.OK
}

func readingAll(body string, h api.Head) ([]api.Record, api.Errno) {
	var out []api.Record
	for n := range h.Count {
		r, size, e := record.Read(body, h.First, n)
		if e != api.OK {
			return nil, e
		}
		out, body = append(out, r), body[size:]
	}
	if body != "" {
		return nil, api.ErrLeft
	}
	greatest := out[0].Time
	for _, r := range out {
		greatest = max(greatest, r.Time)
	}
	if out[0].Time != h.First || greatest != h.Greatest {
		return nil, api.ErrBatch
	}
	return out, api.OK
}

func some(data string) api.Opt { return api.Opt{Has: true, Data: data} }

// dice chooses batches.
type dice struct {
	*rand.Rand
}

func newDice(seed uint64) dice { return dice{rand.New(rand.NewPCG(seed, 6))} }

// text is of few letters, so that packing finds matches.
func (d dice) text() string {
	s := make([]byte, d.IntN([]int{1, 4, 40, 200}[d.IntN(4)]))
	for i := range s {
		s[i] = "ab\x00\xff"[d.IntN(4)]
	}
	return string(s)
}

// opt is null at times, and then carries Data that is to be passed over.
func (d dice) opt() api.Opt { return api.Opt{Has: d.IntN(3) > 0, Data: d.text()} }

// time is small or great, and never so great that two of them have no difference.
func (d dice) time() int64 { return int64(d.Uint64()) >> (1 + d.IntN(2)*d.IntN(63)) }

func (d dice) record() api.Record {
	r := api.Record{Time: d.time(), Key: d.opt(), Value: d.opt()}
	for range d.IntN([]int{1, 2, 6, 30}[d.IntN(4)]) {
		r.Headers = append(r.Headers, api.Header{Key: d.text(), Value: d.opt()})
	}
	return r
}

// batch answers a batch that can be encoded.
func (d dice) batch() api.Batch {
	b := api.Batch{Packed: d.IntN(2) == 0, Producer: -1, Seq: -1}
	if d.IntN(2) == 0 {
		b.Producer, b.Seq = d.Int64()>>d.IntN(63), d.Int32()>>d.IntN(31)
	}
	for range 1 + d.IntN([]int{1, 3, 10, 150}[d.IntN(4)]) {
		b.Records = append(b.Records, d.record())
	}
	b.Base = []int64{0, d.Int64() >> (2 + d.IntN(60)), 1<<62 - int64(len(b.Records))}[d.IntN(3)]
	return b
}

// harm answers s with a byte of it from a place on changed, taken away or put in, or cut.
func (d dice) harm(s string, from int) string {
	from = min(from, len(s))
	at := from + d.IntN(len(s)+1-from)
	put := string([]byte{byte([]uint32{d.Uint32(), d.Uint32N(12), 0x80 | d.Uint32()}[d.IntN(3)])})
	switch {
	case d.IntN(4) == 0:
		return s[:at] + put + s[at:]
	case at == len(s):
		return s + put
	case d.IntN(3) == 0:
		return s[:at] + s[at+1:]
	case d.IntN(8) == 0:
		return s[:at]
	}
	return s[:at] + put + s[at+1:]
}
