package names

import "slices"

// Segment tells of a segment which of its files are there, by their kinds' numbers.
type Segment struct {
	Base int64
	Has  [3]bool
}

// Whole tells whether all three files are there.
func (s Segment) Whole() bool { return s.Has == [3]bool{true, true, true} }

// Group answers the segments that the good names among names are of, the lesser base first, and all other names in the order of their bytes, each as often as it stands there.
func Group(names []string) ([]Segment, []string) {
	var segments []Segment
	var stray []string
	// Good names stand in the order of their bytes as their bases do: sorted, those of one segment come one behind the other.
	sorted := slices.Clone(names)
	slices.Sort(sorted)
	for _, name := range sorted {
		base, kind, ok := Parse(name)
		if !ok {
			stray = append(stray, name)
			continue
		}
		last := len(segments) - 1
		if last < 0 || segments[last].Base != base {
			segments = append(segments, Segment{Base: base})
			last++
		}
		segments[last].Has[kind] = true
	}
	return segments, stray
}

// Next answers the least base above base of the segments whose log file is there, and whether there is one.
func Next(base int64, segments []Segment) (int64, bool) {
	next, found := int64(0), false
	for _, s := range segments {
		if s.Has[Log] && s.Base > base && (!found || s.Base < next) {
			next, found = s.Base, true
		}
	}
	return next, found
}
