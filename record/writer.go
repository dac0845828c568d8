package record

import (
	"gantry/api"
	"gantry/wire"
)

// noAttributes is the one value that a form's attributes have.
const noAttributes = 0

// writer lays records' forms one behind the other. The records must have been measured: it refuses none.
type writer struct {
	wire.Writer
}

func (w *writer) record(r api.Record, first int64, n int) {
	delta := r.Time - first
	w.Uvarint(uint64(ownSize(r, delta, n)))
	w.U8(noAttributes)
	w.Varint(delta)
	w.Uvarint(uint64(n))
	w.Opt(r.Key)
	w.Opt(r.Value)
	w.Uvarint(uint64(len(r.Headers)))
	for _, h := range r.Headers {
		w.Text(h.Key)
		w.Opt(h.Value)
	}
}
