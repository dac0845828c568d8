package client

import (
	"gantry/api"
	"gantry/proto"
)

// Asker is handed a request's bytes and answers a reply's bytes; what it answers may be anything.
type Asker interface {
	Ask(request string) string
}

// line is what leads to the one who answers: client, producer and consumer embed it, and ask by it alone.
type line struct {
	asker Asker // may be nil
}

// ask answers the reply to q, and the reply's error: layer 17's, with nothing asked, if q can't be written; ErrReply, if asking fails, and fails again as many times.
func (l line) ask(q api.Request, again int) (api.Reply, api.Errno) {
	form, e := proto.Ask(q)
	if e != api.OK {
		return api.Reply{}, e
	}
	for range 1 + again {
		// The reply's own error may be ErrReply too: that one hasn't failed.
		if r, ok := l.try(form, q.Kind); ok {
			return r, r.Err
		}
	}
	return api.Reply{}, api.ErrReply
}

// try answers the reply to a request of that kind: false, if asking fails.
func (l line) try(form string, kind api.Ask) (api.Reply, bool) {
	r, e := proto.ReadReply(l.answer(form))
	if e != api.OK || r.Kind != kind {
		return api.Reply{}, false
	}
	return r, true
}

// answer answers what comes back.
func (l line) answer(form string) (reply string) {
	// Whatever the asker is, no call here panics: of one that does no bytes come back.
	defer func() { recover() }()
	if l.asker == nil {
		return ""
	}
	return l.asker.Ask(form)
}
