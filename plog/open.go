package plog

import (
	"gantry/api"
	"gantry/disk"
	"gantry/names"
	"gantry/segment"
)

// mostRoom is the greatest room that counts.
const mostRoom = 1 << 40

// Open answers the log that the log files are of, or a new one where there is none: ErrNone of nil files, ErrCorrupt where the log files don't follow each other, else layer 13's error for the first of them that has one. All index files are made anew.
func Open(files disk.Files, c api.Config) (*Log, api.Errno) {
	if files == nil {
		return nil, api.ErrNone
	}
	l := &Log{files: files, config: counted(c)}
	there, _ := names.Group(files.List())
	// All of them go ahead of all else, so that what they held takes no room from the new ones.
	l.dropIndexes(there)
	if e := l.restore(logBases(there)); e != api.OK {
		return nil, e
	}
	return l, api.OK
}

// counted answers c with its numbers as they count.
func counted(c api.Config) api.Config {
	return api.Config{
		Segment: min(max(c.Segment, 1), api.MostSegment),
		Frame:   min(max(c.Frame, api.LeastFrame), api.MostFrame),
		Plain:   min(max(c.Plain, api.LeastFrame-api.HeadSize), api.MostPlain),
		Every:   min(max(c.Every, 1), api.MostSegment),
		Room:    min(max(c.Room, 0), mostRoom),
		First:   min(max(c.First, 0), api.MostOffset),
	}
}

// dropIndexes removes the index files that are there. Whatever becomes of them nobody sees, so an error is nobody's.
func (l *Log) dropIndexes(there []names.Segment) {
	for _, s := range there {
		for _, kind := range [2]names.Kind{names.Offsets, names.Times} {
			if s.Has[kind] {
				// It refuses no base that a name was of.
				name, _ := names.Name(s.Base, kind)
				l.files.Remove(name)
			}
		}
	}
}

// logBases answers the bases of the log files that are there, rising as those of there do.
func logBases(there []names.Segment) []int64 {
	var bases []int64
	for _, s := range there {
		if s.Has[names.Log] {
			bases = append(bases, s.Base)
		}
	}
	return bases
}

// restore opens the segments of the log files with these bases, and notes their batches; of none it makes the first segment.
func (l *Log) restore(bases []int64) api.Errno {
	if len(bases) == 0 {
		return l.begin()
	}
	for i, base := range bases {
		if i > 0 && base != l.End() {
			return api.ErrCorrupt
		}
		s, e := segment.Open(l.files, base, l.config, i == len(bases)-1)
		if e != api.OK {
			return e
		}
		l.segments = append(l.segments, s)
	}
	return l.noteAll()
}

// begin makes the first segment.
func (l *Log) begin() api.Errno {
	s, e := segment.Make(l.files, l.config.First, l.config)
	if e != api.OK {
		return e
	}
	l.segments = append(l.segments, s)
	return api.OK
}

// noteAll notes the heads of all frames in the book.
func (l *Log) noteAll() api.Errno {
	for _, s := range l.segments {
		for at := 0; at < s.Size(); {
			h, e := s.Head(at)
			if e != api.OK {
				return e
			}
			l.book.Note(h)
			at += h.Length
		}
	}
	return api.OK
}
