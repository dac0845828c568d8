package disk

import (
	"strings"

	"gantry/api"
)

// Create makes a file without bytes. It refuses by ErrName a name that isn't good or is there already, and by ErrMost where there are MostFiles files; a nil disk refuses a good name by ErrFull.
func (d *Disk) Create(name string) api.Errno {
	if !good(name) || d.file(name) != nil {
		return api.ErrName
	}
	if d == nil {
		return api.ErrFull
	}
	if len(d.files) >= api.MostFiles {
		return api.ErrMost
	}
	if d.files == nil {
		d.files = make(map[string]*file)
	}
	// The name may be cut out of a great text, which the disk must not hold on to.
	d.files[strings.Clone(name)] = &file{}
	return api.OK
}

func good(name string) bool { return 1 <= len(name) && len(name) <= api.MostName }

// Append lays the bytes of data behind the file's, as many of the first of them as there is room for, and answers their number; with ErrFull where these aren't all, and ErrNone where there is no such file.
func (d *Disk) Append(name, data string) (int, api.Errno) {
	f := d.file(name)
	if f == nil {
		return 0, api.ErrNone
	}
	n := min(len(data), d.room-d.used, api.MostFile-f.size())
	f.lay(data[:n])
	d.used += n
	if n < len(data) {
		return n, api.ErrFull
	}
	return n, api.OK
}

// Cut leaves the first size bytes of a file. It refuses by ErrNone where there is no such file, and by ErrRange where the file hasn't so many.
func (d *Disk) Cut(name string, size int) api.Errno {
	f := d.file(name)
	if f == nil {
		return api.ErrNone
	}
	if !f.has(0, size) {
		return api.ErrRange
	}
	d.used -= f.size() - size
	f.cut(size)
	return api.OK
}

// Sync makes all bytes of a file safe, or answers ErrNone.
func (d *Disk) Sync(name string) api.Errno {
	f := d.file(name)
	if f == nil {
		return api.ErrNone
	}
	f.synced = f.size()
	return api.OK
}

// Remove makes an end of a file, or answers ErrNone.
func (d *Disk) Remove(name string) api.Errno {
	f := d.file(name)
	if f == nil {
		return api.ErrNone
	}
	d.used -= f.size()
	delete(d.files, name)
	return api.OK
}

// Overwrite puts data in the place of a file's bytes from at on; what is safe of the file counts as safe still. It refuses by ErrNone where there is no such file, and by ErrRange where the file hasn't so many bytes there.
func (d *Disk) Overwrite(name string, at int, data string) api.Errno {
	f := d.file(name)
	if f == nil {
		return api.ErrNone
	}
	if !f.has(at, len(data)) {
		return api.ErrRange
	}
	f.put(at, data)
	return api.OK
}

// Clone answers a disk of its own that is the same in all, and nil of nil.
func (d *Disk) Clone() *Disk {
	if d == nil {
		return nil
	}
	twin := *d
	twin.files = make(map[string]*file, len(d.files))
	for name, f := range d.files {
		twin.files[name] = f.clone()
	}
	return &twin
}
