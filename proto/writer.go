package proto

import (
	"gantry/api"
	"gantry/wire"
)

// writer lays fields one behind the other, and keeps that a field can't be written.
type writer struct {
	wire.Writer
	fault api.Errno
}

func (w *writer) kind(k api.Ask) { w.U8(uint8(k)) }

func (w *writer) errno(e api.Errno) { w.I32(int32(e)) }

func (w *writer) truth(is bool) {
	var v uint8
	if is {
		v = 1
	}
	w.U8(v)
}

// data writes a text of at most most bytes behind its length.
func (w *writer) data(s string, most int) {
	if len(s) > most {
		w.fault = api.ErrLong
		return
	}
	w.U32(uint32(len(s)))
	w.Raw(s)
}

// whole answers all that is written, if all of it could be.
func (w *writer) whole() (string, api.Errno) {
	if w.fault != api.OK {
		return "", w.fault
	}
	return w.Bytes(), api.OK
}
