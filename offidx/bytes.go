package offidx

import (
	"gantry/api"
	"gantry/wire"
)

// EntrySize is how many bytes an entry has: its two numbers'.
const EntrySize = 16

// Put answers the entries' bytes, one behind the other, whatever the entries are.
func Put(entries ...api.Entry) string {
	w := wire.NewWriter()
	for _, e := range entries {
		w.I64(e.Key)
		w.I64(e.At)
	}
	return w.Bytes()
}

// Read answers the entries that s is the bytes of, in whatever order: ErrEntries, if it ends within one.
func Read(s string) ([]api.Entry, api.Errno) {
	if len(s)%EntrySize != 0 {
		return nil, api.ErrEntries
	}
	entries := make([]api.Entry, len(s)/EntrySize)
	r := wire.NewReader(s)
	for i := range entries {
		// There are just as many bytes as the entries take, so that none of these fails.
		entries[i].Key, _ = r.I64()
		entries[i].At, _ = r.I64()
	}
	return entries, api.OK
}

// Load answers the index with the entries that s is the bytes of: Read's error, or ErrOrder, if they don't keep the order.
func Load(s string) (*Index, api.Errno) {
	entries, e := Read(s)
	if e != api.OK {
		return nil, e
	}
	x := New()
	for _, entry := range entries {
		if e := x.Add(entry); e != api.OK {
			return nil, e
		}
	}
	return x, api.OK
}
