package seek

import (
	"iter"

	"gantry/api"
	"gantry/batch"
	"gantry/plog"
)

// search is what one call does to find something in a log; its meter counts that.
type search struct {
	log   *plog.Log
	meter api.Meter
}

// from goes through the frames from the one on that has the offset; through none, where none has it. Like every run here it gives each frame with OK, and ends behind an error.
func (s *search) from(offset int64) iter.Seq2[Hit, api.Errno] {
	n, ok := s.log.Holder(offset)
	if !ok {
		return func(func(Hit, api.Errno) bool) {}
	}
	at, probes := s.log.Segment(n).Place(offset)
	s.meter.Probes += probes
	return only(s.frames(n, at), func(h Hit) bool { return batch.Behind(h.Head) > offset })
}

// since goes through the frames of the segment number n, and of those behind it, that have a record of the time t or later.
func (s *search) since(n int, t int64) iter.Seq2[Hit, api.Errno] {
	at, probes := s.log.Segment(n).PlaceTime(t)
	s.meter.Probes += probes
	return only(s.frames(n, at), func(h Hit) bool { return h.Greatest >= t })
}

// holderOfTime answers the number of the first segment that has a record of the time t or later, and whether there is one. Segments know their greatest times, so no index is asked for it.
func (s *search) holderOfTime(t int64) (int, bool) {
	for n := range s.log.Segments() {
		if late, ok := s.log.Segment(n).Greatest(); ok && late >= t {
			return n, true
		}
	}
	return 0, false
}

// frames goes through the frames from a place on in the segment number n, over it and all segments behind it.
func (s *search) frames(n, at int) iter.Seq2[Hit, api.Errno] {
	return func(yield func(Hit, api.Errno) bool) {
		place := at
		for i := n; i < s.log.Segments(); i++ {
			for place < s.log.Segment(i).Size() {
				h, e := s.hit(i, place)
				if !yield(h, e) || e != api.OK {
					return
				}
				place += h.Length
			}
			place = 0
		}
	}
}

// only goes through those of frames that are wanted.
func only(frames iter.Seq2[Hit, api.Errno], wanted func(Hit) bool) iter.Seq2[Hit, api.Errno] {
	return func(yield func(Hit, api.Errno) bool) {
		for h, e := range frames {
			if (e != api.OK || wanted(h)) && !yield(h, e) {
				return
			}
		}
	}
}

// first answers the first of frames, which there must be.
func first(frames iter.Seq2[Hit, api.Errno]) (Hit, api.Errno) {
	for h, e := range frames {
		return h, e
	}
	// Only files that hold other bytes than the log has appended come to this.
	return Hit{}, api.ErrCorrupt
}

// hit answers the frame that begins at a place in the segment number n.
func (s *search) hit(n, at int) (Hit, api.Errno) {
	h, e := s.log.Segment(n).Head(at)
	if e != api.OK {
		return Hit{}, e
	}
	s.meter.Bytes += api.HeadSize
	return Hit{Head: h, Segment: n, At: at}, api.OK
}

// read answers a frame's bytes.
func (s *search) read(h Hit) (string, api.Errno) {
	frame, e := s.log.Segment(h.Segment).Read(h.At, h.Length)
	if e != api.OK {
		return "", e
	}
	s.meter.Bytes += h.Length
	return frame, api.OK
}

// records answers a frame's records.
func (s *search) records(h Hit) ([]api.Record, api.Errno) {
	frame, e := s.read(h)
	if e != api.OK {
		return nil, e
	}
	c := s.log.Config()
	b, _, e := batch.Decode(frame, c.Frame, c.Plain)
	if e != api.OK {
		return nil, e
	}
	return b.Records, api.OK
}
