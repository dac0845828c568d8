package proto

import (
	"gantry/api"
)

// layout is how the fields of a kind are written and read: those that stand behind the kind, and in a reply behind its error.
type layout[T any] struct {
	write func(w *writer, from T)
	read  func(r *reader, into *T)
}

// find answers the layout of a kind, and whether there is one.
func find[T any](table []layout[T], kind api.Ask) (layout[T], bool) {
	// Any int may come as a kind, and at noKind the tables have an empty row.
	if kind <= noKind || int(kind) >= len(table) {
		return layout[T]{}, false
	}
	return table[kind], true
}

// requests answers the layouts of requests by their kinds.
func requests() []layout[api.Request] {
	nothing := layout[api.Request]{
		write: func(*writer, api.Request) {},
		read:  func(*reader, *api.Request) {},
	}
	return []layout[api.Request]{
		api.AskProduce: {
			write: func(w *writer, from api.Request) { w.data(from.Data, api.MostFrame) },
			read:  func(r *reader, into *api.Request) { into.Data = r.data(api.MostFrame) },
		},
		api.AskFetch: {
			write: func(w *writer, from api.Request) {
				w.I64(from.Offset)
				w.I64(int64(from.Most))
			},
			read: func(r *reader, into *api.Request) {
				into.Offset = r.number()
				into.Most = int(r.number())
			},
		},
		api.AskTime: {
			write: func(w *writer, from api.Request) { w.I64(from.Time) },
			read:  func(r *reader, into *api.Request) { into.Time = r.number() },
		},
		api.AskFlush: nothing,
		api.AskTrim: {
			write: func(w *writer, from api.Request) { w.I64(from.Offset) },
			read:  func(r *reader, into *api.Request) { into.Offset = r.number() },
		},
		api.AskBounds: nothing,
	}
}

// replies answers the layouts of replies without an error by their kinds.
func replies() []layout[api.Reply] {
	offset := layout[api.Reply]{
		write: func(w *writer, from api.Reply) { w.I64(from.Offset) },
		read:  func(r *reader, into *api.Reply) { into.Offset = r.number() },
	}
	return []layout[api.Reply]{
		api.AskProduce: {
			write: func(w *writer, from api.Reply) {
				w.truth(from.Double)
				w.I64(from.Offset)
			},
			read: func(r *reader, into *api.Reply) {
				into.Double = r.truth()
				into.Offset = r.number()
			},
		},
		api.AskFetch: {
			write: func(w *writer, from api.Reply) {
				w.I64(from.End)
				w.data(from.Data, api.MostFile)
			},
			read: func(r *reader, into *api.Reply) {
				into.End = r.number()
				into.Data = r.data(api.MostFile)
			},
		},
		api.AskTime: offset,
		api.AskFlush: {
			write: func(w *writer, from api.Reply) { w.I64(from.End) },
			read:  func(r *reader, into *api.Reply) { into.End = r.number() },
		},
		api.AskTrim: offset,
		api.AskBounds: {
			write: func(w *writer, from api.Reply) {
				w.I64(from.Offset)
				w.I64(from.End)
			},
			read: func(r *reader, into *api.Reply) {
				into.Offset = r.number()
				into.End = r.number()
			},
		},
	}
}
