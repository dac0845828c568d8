package batch

import (
	"gantry/api"
	"gantry/crc"
	"gantry/record"
	"gantry/wire"
)

// state is how a frame's records stand in it, as its flags tell.
type state uint16

const (
	plainState state = iota
	packedState
)

const (
	// mark is the byte that every frame has.
	mark = 71
	// lengthEnd is where the bytes begin that a frame's length counts.
	lengthEnd = 12
	// summedAt is where the bytes begin that are under a frame's sum.
	summedAt = 17
)

// fields are the numbers that stand in a frame's head, whatever they are.
type fields struct {
	base            int64
	length          uint32
	mark            uint8
	sum             uint32
	state           state
	count           uint32
	first, greatest int64
	producer        int64
	seq             int32
}

// fieldsOf answers the fields of the frame of b, which has stored bytes behind its head. The sum is not among them yet.
func fieldsOf(b api.Batch, stored int) fields {
	return fields{
		base:     b.Base,
		length:   uint32(api.HeadSize - lengthEnd + stored),
		mark:     mark,
		state:    stateOf(b),
		count:    uint32(len(b.Records)),
		first:    b.Records[0].Time,
		greatest: record.Greatest(b.Records),
		producer: b.Producer,
		seq:      b.Seq,
	}
}

func stateOf(b api.Batch) state {
	if b.Packed {
		return packedState
	}
	return plainState
}

// frame answers the whole frame: the head with its sum, and what is stored behind it.
func (f fields) frame(stored string) string {
	summed := f.summed()
	f.sum = crc.More(crc.Sum(summed), stored)
	return f.unsummed() + summed + stored
}

// unsummed answers the head's bytes up to those that are under the sum.
func (f fields) unsummed() string {
	var w wire.Writer
	w.I64(f.base)
	w.U32(f.length)
	w.U8(f.mark)
	w.U32(f.sum)
	return w.Bytes()
}

// summed answers the head's bytes that are under the sum.
func (f fields) summed() string {
	var w wire.Writer
	w.U16(uint16(f.state))
	w.U32(f.count)
	w.I64(f.first)
	w.I64(f.greatest)
	w.I64(f.producer)
	w.I32(f.seq)
	return w.Bytes()
}

// readFields reads the fields that src, which is no shorter than a head, begins with.
func readFields(src string) fields {
	var f fields
	r := wire.NewReader(src)
	f.base, _ = r.I64()
	f.length, _ = r.U32()
	f.mark, _ = r.U8()
	f.sum, _ = r.U32()
	flags, _ := r.U16()
	f.state = state(flags)
	f.count, _ = r.U32()
	f.first, _ = r.I64()
	f.greatest, _ = r.I64()
	f.producer, _ = r.I64()
	f.seq, _ = r.I32()
	return f
}

// right answers whether the fields may be a head's, as far as they tell by themselves.
func (f fields) right() bool {
	return f.mark == mark && f.state <= packedState &&
		f.count >= 1 && f.count <= api.MostRecords &&
		isOffset(f.base) && haveOffsets(f.base, int(f.count)) &&
		f.first <= f.greatest && isProducer(f.producer, f.seq) &&
		f.size() >= api.LeastFrame && f.size() <= api.MostFrame
}

// size answers how many bytes the frame has by its length. Any length may stand there, so it is no int yet.
func (f fields) size() uint64 { return lengthEnd + uint64(f.length) }

// head answers what right fields say.
func (f fields) head() api.Head {
	return api.Head{
		Base:     f.base,
		Length:   int(f.size()),
		Packed:   f.state == packedState,
		Count:    int(f.count),
		First:    f.first,
		Greatest: f.greatest,
		Producer: f.producer,
		Seq:      f.seq,
	}
}

// isOffset answers whether a record can have the offset.
func isOffset(offset int64) bool { return offset >= 0 && offset < api.MostOffset }

// haveOffsets answers whether there are offsets for count records from base on.
func haveOffsets(base int64, count int) bool { return base <= api.MostOffset-int64(count) }

// isProducer answers whether a batch can have this producer and sequence.
func isProducer(producer int64, seq int32) bool {
	if producer == -1 {
		return seq == -1
	}
	return producer >= 0 && seq >= 0
}
