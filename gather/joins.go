package gather

import (
	"gantry/api"
	"gantry/lz"
	"gantry/record"
)

// packedSize is how many bytes a packed frame has between its head and its records' packed form.
const packedSize = 4

// A condition is one of those that an offer must meet to join.
type condition func(o offer) bool

// offer is what the conditions look at of a record and those that it would join.
type offer struct {
	ahead       int   // how many wait
	first, time int64 // the batch's first time, and the record's own
	fault       api.Errno
	body        int // the bytes of the body with the record, if there is no fault
}

// offerOf answers what r offers behind those that wait, whose body has so many bytes.
func offerOf(r api.Record, waiting []api.Record, body int) offer {
	o := offer{ahead: len(waiting), first: r.Time, time: r.Time}
	if o.ahead > 0 {
		o.first = waiting[0].Time
	}
	size, e := record.Size(r, o.first, o.ahead)
	o.fault, o.body = e, body+size
	return o
}

// refusal answers why a record that doesn't even join none is refused.
func (o offer) refusal() api.Errno {
	if o.fault != api.OK {
		return o.fault
	}
	return api.ErrBig
}

// conditions answers what the bounds, as they count, ask of an offer. Where none wait the first two hold of themselves.
func conditions(b Bounds) []condition {
	return []condition{
		func(o offer) bool { return o.ahead < b.Records },
		func(o offer) bool { return distance(o.time, o.first) <= uint64(b.Span) },
		func(o offer) bool { return o.fault == api.OK },
		func(o offer) bool { return o.body <= b.Plain },
		func(o offer) bool { return room(o.body, b.Packed) <= b.Frame },
	}
}

// takes tells whether an offer meets all conditions.
func (g *Gather) takes(o offer) bool {
	for _, holds := range g.joins {
		if !holds(o) {
			return false
		}
	}
	return true
}

// counted answers the bounds as they count.
func counted(b Bounds) Bounds {
	b.Records = min(max(b.Records, 1), api.MostRecords)
	b.Plain = min(max(b.Plain, api.LeastFrame-api.HeadSize), api.MostPlain)
	b.Frame = min(max(b.Frame, api.LeastFrame), api.MostFrame)
	b.Span = max(b.Span, 0)
	return b
}

// room answers the most bytes that a frame with such a body may have.
func room(body int, packed bool) int {
	if packed {
		return api.HeadSize + packedSize + lz.Bound(body)
	}
	return api.HeadSize + body
}

// distance answers how far apart two times are, which may be more than an int64 can tell.
func distance(a, b int64) uint64 {
	if a < b {
		a, b = b, a
	}
	return uint64(a) - uint64(b)
}
