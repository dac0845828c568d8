package proto

import (
	"gantry/api"
	"gantry/wire"
)

// reader reads fields one behind the other. It keeps the first thing that was wrong: an error of the wire's reader, or a fault of its own; what is read behind that counts for nothing.
type reader struct {
	*wire.Reader
	fault api.Errno
}

func newReader(s string) *reader { return &reader{Reader: wire.NewReader(s)} }

func (r *reader) kind() api.Ask {
	v, _ := r.U8()
	return api.Ask(v)
}

func (r *reader) errno() api.Errno {
	v, _ := r.I32()
	return api.Errno(v)
}

func (r *reader) number() int64 {
	v, _ := r.I64()
	return v
}

func (r *reader) truth() bool {
	v, _ := r.U8()
	r.refuseIf(v > 1, api.ErrReply)
	return v == 1
}

// data reads a text of at most most bytes behind its length.
func (r *reader) data(most uint32) string {
	length, _ := r.U32()
	// No int till it is held against the bounds: any number may stand there.
	r.refuseIf(length > most || uint64(length) > uint64(r.Left()), api.ErrLong)
	if r.failed() != api.OK {
		return ""
	}
	s, _ := r.Raw(int(length))
	return s
}

// refuseIf keeps a fault, unless something was wrong ahead of it.
func (r *reader) refuseIf(wrong bool, why api.Errno) {
	if wrong && r.failed() == api.OK {
		r.fault = why
	}
}

// failed answers the first thing that was wrong. A fault is kept only where the wire's reader had not failed, so it goes ahead of whatever that met later.
func (r *reader) failed() api.Errno {
	if r.fault != api.OK {
		return r.fault
	}
	return r.Err()
}

// done answers the first thing that was wrong, or else whether bytes are left.
func (r *reader) done() api.Errno {
	if e := r.failed(); e != api.OK {
		return e
	}
	return r.Done()
}
