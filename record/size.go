package record

import (
	"gantry/api"
	"gantry/varint"
)

// leastForm is how many bytes the shortest form has: a frame's least size is that of a head and one such record.
const leastForm = api.LeastFrame - api.HeadSize

// fitBody answers why records have no body. All of them are measured ahead of the first byte, since a record's error goes ahead of the body's.
func fitBody(records []api.Record, first int64) api.Errno {
	var whole int64
	for n, r := range records {
		size, e := Size(r, first, n)
		if e != api.OK {
			return e
		}
		whole += int64(size)
	}
	if whole > api.MostPlain {
		return api.ErrBig
	}
	return api.OK
}

// difference answers time less first, and whether that is a number of an int64.
func difference(time, first int64) (int64, bool) {
	delta := time - first
	// A difference that wraps round comes out on the wrong side of 0.
	return delta, (delta >= 0) == (time >= first)
}

func formSize(r api.Record, delta int64, n int) int {
	own := ownSize(r, delta, n)
	return varint.Size(uint64(own)) + own
}

// ownSize answers how many bytes a form has behind its first number.
func ownSize(r api.Record, delta int64, n int) int {
	size := 1 + varint.SizeSigned(delta) + varint.Size(uint64(n))
	size += optSize(r.Key) + optSize(r.Value) + varint.Size(uint64(len(r.Headers)))
	for _, h := range r.Headers {
		size += textSize(h.Key) + optSize(h.Value)
	}
	return size
}

func textSize(s string) int { return varint.Size(uint64(len(s))) + len(s) }

func optSize(o api.Opt) int {
	if !o.Has {
		return varint.SizeSigned(-1)
	}
	return varint.SizeSigned(len(o.Data)) + len(o.Data)
}
