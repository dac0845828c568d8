package timeidx

import (
	"gantry/api"
)

// table is entries one behind the other. It asks nothing of their order: that is the index's.
type table struct {
	entries []api.Entry
}

func (t *table) count() int { return len(t.entries) }

func (t *table) entry(i int) (api.Entry, bool) {
	if i < 0 || i >= t.count() {
		return api.Entry{}, false
	}
	return t.entries[i], true
}

func (t *table) last() (api.Entry, bool) { return t.entry(t.count() - 1) }

func (t *table) push(e api.Entry) { t.entries = append(t.entries, e) }

func (t *table) cut(n int) api.Errno {
	if n < 0 || n > t.count() {
		return api.ErrRange
	}
	t.entries = t.entries[:n]
	return api.OK
}
