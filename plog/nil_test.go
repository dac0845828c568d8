package plog_test

import (
	"math"
	"testing"

	"gantry/api"
	"gantry/plog"
)

// TestNil: a nil log and the zero one have nothing and take nothing.
func TestNil(t *testing.T) {
	for _, l := range []*plog.Log{nil, {}} {
		expectNothing(t, l)
		for _, f := range []string{"", "x", single(t, 0), single(t, 0) + "x", rebased(t, single(t, 0), 5), sent(t, 1, 0, 1)} {
			if base, double, e := l.Append(f); base != 0 || double || e != api.ErrNone {
				t.Errorf("P15.7: Append of %d bytes: %d, %t, %d", len(f), base, double, e)
			}
		}
		if end, e := l.Flush(); end != 0 || e != api.ErrNone {
			t.Errorf("P15.7: Flush: %d, %d", end, e)
		}
		for _, o := range []int64{math.MinInt64, -1, 0, 1, math.MaxInt64} {
			if start, e := l.Trim(o); start != 0 || e != api.ErrNone {
				t.Errorf("P15.7: Trim(%d): %d, %d", o, start, e)
			}
		}
		expectNothing(t, l)
	}
}

func expectNothing(t *testing.T, l *plog.Log) {
	t.Helper()
	if c := l.Config(); c != (api.Config{Segment: 1, Frame: 58, Plain: 7, Every: 1}) {
		t.Errorf("P15.7: the config is %+v", c)
	}
	if l.Start() != 0 || l.End() != 0 || l.Segments() != 0 || len(l.Bases()) != 0 {
		t.Errorf("P15.7: from %d to %d, %d segments %d", l.Start(), l.End(), l.Segments(), l.Bases())
	}
	for _, n := range []int64{math.MinInt64, -1, 0, 1, math.MaxInt64} {
		if i, ok := l.Holder(n); i != 0 || ok {
			t.Errorf("P15.7: Holder(%d): %d, %t", n, i, ok)
		}
		if l.Segment(int(n)) != nil {
			t.Errorf("P15.7: there is a segment %d", n)
		}
	}
	book := l.Book()
	if book == nil || book.Len() != 0 {
		t.Fatalf("P15.7: the book knows %d producers", book.Len())
	}
	if e := book.Note(api.Head{Producer: 1, Count: 1}); e != api.OK {
		t.Errorf("P15.7: the book is none: %d", e)
	}
}
