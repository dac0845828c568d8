package plog

import (
	"sort"

	"gantry/api"
	"gantry/producer"
	"gantry/segment"
)

// Config answers the config that the log was opened with, its numbers as they count.
func (l *Log) Config() api.Config { return counted(l.source().config) }

// Start answers the base offset of the first segment.
func (l *Log) Start() int64 { return l.Segment(0).Base() }

// End answers the offset that the next record gets.
func (l *Log) End() int64 { return l.last().End() }

// Segments answers how many segments there are.
func (l *Log) Segments() int { return len(l.source().segments) }

// Segment answers the segment number i, from 0 on, and nil if there is none.
func (l *Log) Segment(i int) *segment.Segment {
	if i < 0 || i >= l.Segments() {
		return nil
	}
	return l.segments[i]
}

// Bases answers the base offsets of all segments, in order.
func (l *Log) Bases() []int64 {
	bases := make([]int64, 0, l.Segments())
	for _, s := range l.source().segments {
		bases = append(bases, s.Base())
	}
	return bases
}

// Holder answers the number of the segment that has a record of that offset, and whether there is one.
func (l *Log) Holder(offset int64) (int, bool) {
	if offset < l.Start() || offset >= l.End() {
		return 0, false
	}
	return sort.Search(l.Segments(), func(i int) bool { return l.Segment(i).End() > offset }), true
}

// Book answers a clone of what is known of producers.
func (l *Log) Book() *producer.Book { return l.source().book.Clone() }

// last answers the last segment, nil where there is none: a nil segment's base and end are 0, as such a log's are.
func (l *Log) last() *segment.Segment { return l.Segment(l.Segments() - 1) }

func (l *Log) isEmpty() bool { return l.Segments() == 0 }

// source is where looking looks: of a nil log into an empty one that nobody sees again.
func (l *Log) source() *Log {
	if l == nil {
		return &Log{}
	}
	return l
}
