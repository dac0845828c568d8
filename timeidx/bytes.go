package timeidx

import (
	"gantry/api"
	"gantry/offidx"
)

// EntrySize is how many bytes an entry has: its two numbers'.
const EntrySize = 16

// Form answers an entry's bytes, whatever the entry is. They are layer 10's, as the entries of both indexes have one form.
func Form(e api.Entry) string { return offidx.Put(e) }

// Bytes answers the entries' bytes, one behind the other.
func (x *Index) Bytes() string { return offidx.Put(x.source().entries...) }

// Read answers the index whose Bytes are s: ErrEntries, if s ends within an entry, or Append's error of the first entry that can't stand there.
func Read(s string) (*Index, api.Errno) {
	entries, e := offidx.Read(s)
	if e != api.OK {
		return nil, e
	}
	x := New()
	for _, entry := range entries {
		if e := x.Append(entry); e != api.OK {
			return nil, e
		}
	}
	return x, api.OK
}
