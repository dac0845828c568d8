package record

import (
	"math"

	"gantry/api"
	"gantry/wire"
)

// noMost is the most of a text that is held against nothing but the bytes that are left.
const noMost = math.MaxInt

// leastHeader is how many bytes a header has at least: those of two lengths.
const leastHeader = 2

// reader reads records' forms. It keeps the first thing that was wrong: an error of the wire's reader, or a fault of its own.
type reader struct {
	*wire.Reader
	fault api.Errno
}

func newReader(s string) *reader { return &reader{Reader: wire.NewReader(s)} }

// next reads the record number n, whose form begins where r stands.
func (r *reader) next(first int64, n int) (api.Record, api.Errno) {
	begin := r.At()
	own, e := r.own()
	if e != api.OK {
		return api.Record{}, e
	}
	got := own.record(first, n)
	own.refuseIf(own.Left() > 0, api.ErrRecord)
	own.refuseIf(r.At()-begin > api.MostPlain, api.ErrBig)
	if e := own.failed(); e != api.OK {
		return api.Record{}, e
	}
	return got, api.OK
}

// own answers a reader of a form's own bytes, those behind its first number, and moves on behind them.
func (r *reader) own() (*reader, api.Errno) {
	length, e := r.Uvarint()
	if e != api.OK {
		return nil, e
	}
	// No int till it is held against the bytes that are left: any number may stand there.
	if length > uint64(r.Left()) {
		return nil, api.ErrLong
	}
	part, e := r.Part(int(length))
	return &reader{Reader: part}, e
}

// record reads what stands in a form's own bytes. What it answers counts only if nothing failed.
func (r *reader) record(first int64, n int) api.Record {
	attributes, _ := r.U8()
	r.refuseIf(attributes != noAttributes, api.ErrRecord)
	delta, _ := r.Varint()
	time, fits := sum(first, delta)
	r.refuseIf(!fits, api.ErrDelta)
	number, _ := r.Uvarint()
	r.refuseIf(number != uint64(n), api.ErrDelta)
	key, _ := r.Opt(noMost)
	value, _ := r.Opt(noMost)
	return api.Record{Time: time, Key: key, Value: value, Headers: r.headers()}
}

func (r *reader) headers() []api.Header {
	count, _ := r.Uvarint()
	r.refuseIf(count > api.MostHeaders, api.ErrMost)
	if r.failed() != api.OK || count == 0 {
		return nil
	}
	out := make([]api.Header, 0, min(int(count), r.Left()/leastHeader))
	for range count {
		key, _ := r.Text(noMost)
		value, e := r.Opt(noMost)
		if e != api.OK {
			return nil
		}
		out = append(out, api.Header{Key: key, Value: value})
	}
	return out
}

// refuseIf keeps a fault, unless something was wrong ahead of it: behind that, what was read says nothing.
func (r *reader) refuseIf(wrong bool, why api.Errno) {
	if wrong && r.failed() == api.OK {
		r.fault = why
	}
}

// failed answers the first thing that was wrong. A fault is kept only where the wire's reader had not failed, so it goes ahead of whatever that met later.
func (r *reader) failed() api.Errno {
	if r.fault != api.OK {
		return r.fault
	}
	return r.Err()
}

// sum answers first and delta together, and whether that is a number of an int64.
func sum(first, delta int64) (int64, bool) {
	time := first + delta
	// A sum that wraps round comes out on the wrong side of what was added to.
	return time, (time >= first) == (delta >= 0)
}
