package batch

import (
	"gantry/api"
	"gantry/lz"
	"gantry/record"
	"gantry/wire"
)

// store answers what stands behind the head in the frame of b: its records' bytes, plain or packed.
func store(b api.Batch) (string, api.Errno) {
	if e := refuseHead(b); e != api.OK {
		return "", e
	}
	body, e := record.Body(b.Records)
	if e != api.OK {
		return "", e
	}
	if b.Packed {
		body = pack(body)
	}
	if len(body) > api.MostFrame-api.HeadSize {
		return "", api.ErrBig
	}
	return body, api.OK
}

// refuseHead answers why b has no frame, as far as that doesn't lie in its records.
func refuseHead(b api.Batch) api.Errno {
	count := len(b.Records)
	switch {
	case count == 0:
		return api.ErrNone
	case count > api.MostRecords:
		return api.ErrMost
	case !isOffset(b.Base) || !isProducer(b.Producer, b.Seq):
		return api.ErrRange
	case !haveOffsets(b.Base, count):
		return api.ErrOver
	}
	return api.OK
}

// pack answers body as a packed frame has it.
func pack(body string) string {
	var w wire.Writer
	w.U32(uint32(len(body)))
	return w.Bytes() + lz.Pack(body)
}

// unpack answers the records' bytes, at most most of them, that a packed frame has stored.
func unpack(stored string, most int) (string, api.Errno) {
	r := wire.NewReader(stored)
	length, e := r.U32()
	if e != api.OK {
		return "", api.ErrPacked
	}
	// No int till it is held against the most: any number may stand there.
	if uint64(length) > uint64(most) {
		return "", api.ErrBig
	}
	body, e := lz.Unpack(stored[r.At():], int(length), most)
	if e != api.OK {
		return "", api.ErrPacked
	}
	return body, api.OK
}
