package plog

import (
	"errors"

	"gantry/api"
	"gantry/batch"
	"gantry/segment"
)

// Append makes frame, as a producer sends it, the last one of the log, and answers the base offset that it gets. Of a batch that is there already it answers the base offset that it has, and true. What is refused changes nothing: layer 6's error, ErrLeft, ErrBatch, ErrGap, ErrStale, ErrOver, ErrFull.
func (l *Log) Append(frame string) (base int64, double bool, e api.Errno) {
	if l.isEmpty() {
		return 0, false, api.ErrNone
	}
	h, e := l.check(frame)
	if e != api.OK {
		return 0, false, e
	}
	base, e = l.book.Check(h.Producer, h.Seq, h.Count)
	switch {
	case errors.Is(e, api.ErrDouble):
		return base, true, api.OK
	case !errors.Is(e, api.OK):
		return 0, false, e
	}
	h.Base = l.End()
	if e := l.place(frame, h); e != api.OK {
		return 0, false, e
	}
	l.book.Note(h)
	return h.Base, false, api.OK
}

// check answers the head of frame, if a producer may send it.
func (l *Log) check(frame string) (api.Head, api.Errno) {
	h, e := batch.Check(frame, l.config.Frame, l.config.Plain)
	switch {
	case e != api.OK:
		return api.Head{}, e
	case h.Length != len(frame):
		return api.Head{}, api.ErrLeft
	case h.Base != 0:
		return api.Head{}, api.ErrBatch
	}
	return h, api.OK
}

// place appends frame with the base offset that its head h has now: to the last segment, or to a new one where that is full.
func (l *Log) place(frame string, h api.Head) api.Errno {
	if h.Base > api.MostOffset-int64(h.Count) {
		return api.ErrOver
	}
	placed, e := batch.Rebase(frame, h.Base)
	if e != api.OK {
		return e
	}
	last := l.last()
	if last.Count() > 0 && last.Size()+len(placed) > l.config.Segment {
		return l.roll(placed)
	}
	return last.Append(placed)
}

// roll makes a new segment the last one, with frame in it, and makes the one ahead of it safe.
func (l *Log) roll(frame string) api.Errno {
	next, e := segment.Make(l.files, l.End(), l.config)
	if e != api.OK {
		return api.ErrFull
	}
	e = next.Append(frame)
	if e == api.OK {
		e = l.last().Sync()
	}
	if e != api.OK {
		next.Remove()
		return e
	}
	l.segments = append(l.segments, next)
	return api.OK
}
