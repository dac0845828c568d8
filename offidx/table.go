package offidx

import (
	"gantry/api"
)

// table is entries one behind the other. It asks nothing of their order: that is the index's.
type table struct {
	entries []api.Entry
}

func (t *table) count() int { return len(t.entries) }

func (t *table) entry(i int) (api.Entry, bool) {
	if i < 0 || i >= t.count() {
		return api.Entry{}, false
	}
	return t.entries[i], true
}

func (t *table) last() (api.Entry, bool) { return t.entry(t.count() - 1) }

func (t *table) push(e api.Entry) { t.entries = append(t.entries, e) }

func (t *table) cut(n int) api.Errno {
	if n < 0 || n > t.count() {
		return api.ErrRange
	}
	t.entries = t.entries[:n]
	return api.OK
}

// lastOf answers the last entry that is within, whether there is one, and how many entries were looked at. Those that are within must stand ahead of all others.
func (t *table) lastOf(within func(api.Entry) bool) (api.Entry, bool, int) {
	// All entries ahead of low are within, none from high on. Each look leaves half of those between, at most: of n entries it takes 1 + the whole part of log2(n) looks, or one less.
	low, high, looks := 0, t.count(), 0
	for low < high {
		middle := low + (high-low)/2
		looks++
		if within(t.entries[middle]) {
			low = middle + 1
		} else {
			high = middle
		}
	}
	e, ok := t.entry(low - 1)
	return e, ok, looks
}
