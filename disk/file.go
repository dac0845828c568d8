package disk

import "slices"

// file is a file's bytes, and how many of them, from the first on, are safe. Its bytes are a list of its own, so that they may grow and change in their place.
type file struct {
	bytes  []byte
	synced int
}

func (f *file) size() int { return len(f.bytes) }

// has tells whether the file has n bytes from at on. It is reckoned by what is left behind at, as at + n may be beyond all numbers.
func (f *file) has(at, n int) bool { return at >= 0 && n >= 0 && n <= f.size()-at }

func (f *file) read(at, n int) string { return string(f.bytes[at : at+n]) }

func (f *file) lay(data string) { f.bytes = append(f.bytes, data...) }

func (f *file) put(at int, data string) { copy(f.bytes[at:], data) }

func (f *file) cut(size int) {
	f.bytes = f.bytes[:size]
	f.synced = min(f.synced, size)
}

func (f *file) clone() *file { return &file{bytes: slices.Clone(f.bytes), synced: f.synced} }
