package segment

import (
	"gantry/api"
	"gantry/disk"
	"gantry/names"
)

// file is one of a segment's files; size is how many bytes of it are whole frames or entries.
type file struct {
	files disk.Files
	name  string
	size  int
}

func newFile(files disk.Files, base int64, kind names.Kind) file {
	// It refuses no base that a segment can have.
	name, _ := names.Name(base, kind)
	return file{files: files, name: name}
}

func (f *file) create() api.Errno { return f.files.Create(f.name) }

func (f *file) remove() api.Errno { return f.files.Remove(f.name) }

func (f *file) sync() api.Errno { return f.files.Sync(f.name) }

func (f *file) cut() api.Errno { return f.files.Cut(f.name, f.size) }

// lay appends data whole: where that fails, what was written of it is cut away again.
func (f *file) lay(data string) api.Errno {
	_, e := f.files.Append(f.name, data)
	if e == api.OK {
		f.size += len(data)
		return api.OK
	}
	// With ErrFull all is as it was, unless it couldn't be cut; any other error tells more than that.
	if left := f.cut(); left != api.OK && e == api.ErrFull {
		return left
	}
	return e
}

// indexFile is a file of entries. Whatever becomes of it is nobody's loss, as it is never read.
type indexFile struct {
	file
	there bool
}

// renew makes a new file without entries, if it can.
func (f *indexFile) renew() { f.there = f.create() == api.OK }

// put appends an entry's bytes, if they go in whole. A file that couldn't be created gets none, though another one may stand in its place.
func (f *indexFile) put(entry string) {
	if f.there {
		f.lay(entry)
	}
}
