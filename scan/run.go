package scan

import (
	"iter"

	"gantry/api"
	"gantry/batch"
)

// run is the frames of a source's bytes, from its beginning on, as long as each is right and has the offset that is wanted: base first.
type run struct {
	source       source
	base         int64
	frame, plain int
}

// steps goes through the run. Each frame comes with OK; an error that comes behind them is why the run ends ahead of the bytes' end.
func (r run) steps() iter.Seq2[Found, api.Errno] {
	return func(yield func(Found, api.Errno) bool) {
		at, wanted := 0, r.base
		for at < r.source.size() {
			f, e := r.look(at, wanted)
			if !yield(f, e) || e != api.OK {
				return
			}
			at, wanted = f.behind(), batch.Behind(f.Head)
		}
	}
}

// look answers the right frame that begins at at, if it has the wanted offset.
func (r run) look(at int, wanted int64) (Found, api.Errno) {
	h, e := batch.Check(r.source.from(at, r.frame), r.frame, r.plain)
	if e != api.OK {
		return Found{}, e
	}
	if h.Base != wanted {
		return Found{}, api.ErrOrder
	}
	return Found{Head: h, At: at}, api.OK
}

// whole answers all frames of the run, its end, and why it ends there.
func (r run) whole() ([]Found, int, api.Errno) {
	var list []Found
	end := 0
	for f, e := range r.steps() {
		if e != api.OK {
			return list, end, e
		}
		list = append(list, f)
		end = f.behind()
	}
	return list, end, api.OK
}

// behind answers the place behind the frame.
func (f Found) behind() int { return f.At + f.Length }
