package batch

import (
	"gantry/api"
	"gantry/crc"
	"gantry/record"
)

// leastPlain is how few bytes a batch's records can have: those of a least frame's one record.
const leastPlain = api.LeastFrame - api.HeadSize

// peek answers the fields that src begins with, if they may be a head's.
func peek(src string) (fields, api.Errno) {
	if len(src) < api.HeadSize {
		return fields{}, api.ErrShort
	}
	f := readFields(src)
	if !f.right() {
		return fields{}, api.ErrBatch
	}
	return f, api.OK
}

// open answers the head of the right frame that src begins with, and its records' bytes.
func open(src string, frame, plain int) (api.Head, string, api.Errno) {
	f, e := peek(src)
	if e != api.OK {
		return api.Head{}, "", e
	}
	h := f.head()
	if e := checkWhole(src, f, within(frame, api.LeastFrame, api.MostFrame)); e != api.OK {
		return api.Head{}, "", e
	}
	body, e := bodyOf(src[api.HeadSize:h.Length], f.state, within(plain, leastPlain, api.MostPlain))
	if e != api.OK {
		return api.Head{}, "", e
	}
	if e := checkBody(body, h); e != api.OK {
		return api.Head{}, "", e
	}
	return h, body, api.OK
}

// checkWhole answers what is wrong with a frame's bytes as such: they are too many, or not all there, or not those that were summed.
func checkWhole(src string, f fields, most int) api.Errno {
	size := int(f.size())
	switch {
	case size > most:
		return api.ErrBig
	case size > len(src):
		return api.ErrShort
	case crc.Sum(src[summedAt:size]) != f.sum:
		return api.ErrSum
	}
	return api.OK
}

// bodyOf answers the records' bytes, at most most of them, out of what stands behind a head.
func bodyOf(stored string, s state, most int) (string, api.Errno) {
	if s == packedState {
		return unpack(stored, most)
	}
	if len(stored) > most {
		return "", api.ErrBig
	}
	return stored, api.OK
}

// checkBody answers what is wrong with the records' bytes of a frame that has the head h. Each record is dropped when it has been looked at: all together they may take many times their bytes.
func checkBody(body string, h api.Head) api.Errno {
	var first, greatest int64
	for n := range h.Count {
		r, size, e := record.Read(body, h.First, n)
		if e != api.OK {
			return e
		}
		if n == 0 {
			first, greatest = r.Time, r.Time
		}
		greatest = max(greatest, r.Time)
		body = body[size:]
	}
	if body != "" {
		return api.ErrLeft
	}
	if first != h.First || greatest != h.Greatest {
		return api.ErrBatch
	}
	return api.OK
}

// within answers n, or the bound that it lies beyond.
func within(n, least, most int) int { return min(max(n, least), most) }
