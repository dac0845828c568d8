package server

import (
	"gantry/api"
	"gantry/plog"
	"gantry/seek"
)

// noKind is the kind of the reply to a request that has none, or could not be read.
const noKind api.Ask = 0

// mostFetched is the most that a fetch may ask for: what it is answered is still a good reply's Data.
const mostFetched = api.MostFile - api.MostFrame

// duty is what a server does for the requests of a kind. carryOut answers the reply without its kind; beside an error its other fields say nothing.
type duty struct {
	carryOut func(l *plog.Log, r api.Request) api.Reply
}

// find answers the duty of a kind, and whether there is one.
func find(kind api.Ask) (duty, bool) {
	table := duties()
	// Any int may come as a kind, and at noKind the table has an empty row.
	if kind <= noKind || int(kind) >= len(table) {
		return duty{}, false
	}
	return table[kind], true
}

// duties answers what is done by the requests' kinds.
func duties() []duty {
	return []duty{
		api.AskProduce: {carryOut: func(l *plog.Log, r api.Request) api.Reply {
			base, double, e := l.Append(r.Data)
			return api.Reply{Err: e, Offset: base, Double: double}
		}},
		api.AskFetch: {carryOut: func(l *plog.Log, r api.Request) api.Reply {
			frames, e := seek.Fetch(l, r.Offset, min(max(r.Most, 0), mostFetched))
			return api.Reply{Err: e, Data: frames, End: l.End()}
		}},
		api.AskTime: {carryOut: func(l *plog.Log, r api.Request) api.Reply {
			offset, e := seek.Time(l, r.Time)
			return api.Reply{Err: e, Offset: offset}
		}},
		api.AskFlush: {carryOut: func(l *plog.Log, _ api.Request) api.Reply {
			end, e := l.Flush()
			return api.Reply{Err: e, End: end}
		}},
		api.AskTrim: {carryOut: func(l *plog.Log, r api.Request) api.Reply {
			start, e := l.Trim(r.Offset)
			return api.Reply{Err: e, Offset: start}
		}},
		api.AskBounds: {carryOut: func(l *plog.Log, _ api.Request) api.Reply {
			return api.Reply{Offset: l.Start(), End: l.End()}
		}},
	}
}
