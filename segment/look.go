package segment

import "gantry/api"

// Base answers the base offset.
func (s *Segment) Base() int64 { return s.source().base }

// End answers the offset behind the last record, the base where there is none.
func (s *Segment) End() int64 { return s.source().end }

// Size answers the bytes of all frames.
func (s *Segment) Size() int { return s.source().size }

// Count answers how many frames there are.
func (s *Segment) Count() int { return s.source().frames }

// Greatest answers the greatest time of all records, and whether there are any.
func (s *Segment) Greatest() (int64, bool) {
	l := s.source()
	return l.greatest, l.frames > 0
}

// Offsets answers the entries of the offset index.
func (s *Segment) Offsets() []api.Entry { return s.source().offsets.Entries() }

// Times answers the entries of the time index.
func (s *Segment) Times() []api.Entry { return s.source().timeEntries() }

// Place answers the place in the log file from which on to look for the offset, and how many entries were looked at.
func (s *Segment) Place(offset int64) (int, int) {
	x := s.source()
	// All offsets ahead of the base are as the one next to it; of the least ones the difference would be beyond all numbers.
	return x.place(max(offset, x.base-1) - x.base)
}

// PlaceTime answers the place in the log file from which on to look for a record of the time t or later, and how many entries were looked at.
func (s *Segment) PlaceTime(t int64) (int, int) { return s.source().placeTime(t) }

// Read answers n bytes of the log file from at on: ErrRange, where they aren't all of frames.
func (s *Segment) Read(at, n int) (string, api.Errno) { return s.source().read(at, n) }

// Head answers the head that stands at at, by itself: ErrRange, where frames have fewer bytes from there on than a head.
func (s *Segment) Head(at int) (api.Head, api.Errno) { return s.source().head(at) }

// source is where looking looks: of a nil segment into an empty one that nobody sees again.
func (s *Segment) source() *Segment {
	if s == nil {
		return &Segment{}
	}
	return s
}
