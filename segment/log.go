package segment

import (
	"gantry/api"
	"gantry/batch"
	"gantry/disk"
	"gantry/names"
	"gantry/scan"
)

// log is the log file's part of a segment: the file, whose size is that of the frames, and what is known of these.
type log struct {
	file
	most     limits
	base     int64
	end      int64
	frames   int
	greatest int64 // 0 without frames
}

// limits are layer 6's, which counts them itself.
type limits struct {
	frame, plain int
}

func newLog(files disk.Files, base int64, c api.Config) log {
	return log{
		file: newFile(files, base, names.Log),
		most: limits{frame: c.Frame, plain: c.Plain},
		base: base,
		end:  base,
	}
}

// watch is files that note the error by which the last call for a file's size or bytes failed: the scan's own errors have the same numbers.
type watch struct {
	disk.Files
	refused api.Errno
}

func (w *watch) Size(name string) (int, api.Errno) {
	n, e := w.Files.Size(name)
	return n, w.noted(e)
}

func (w *watch) Read(name string, at, n int) (string, api.Errno) {
	s, e := w.Files.Read(name, at, n)
	return s, w.noted(e)
}

func (w *watch) noted(e api.Errno) api.Errno {
	if e != api.OK {
		w.refused = e
	}
	return e
}

// restore answers the frames of the log file, which has these alone and is synced then; none of them is counted yet.
func (l *log) restore(last bool) ([]scan.Found, api.Errno) {
	files := &watch{Files: l.files}
	list, end, why := scan.File(files, l.name, l.base, l.most.frame, l.most.plain)
	if files.refused != api.OK {
		// A file that can't be read is no file without frames: it must not be cut.
		return nil, files.refused
	}
	if !last && (why != api.OK || len(list) == 0) {
		return nil, api.ErrCorrupt
	}
	l.size = end
	if why != api.OK {
		if e := l.cut(); e != api.OK {
			return nil, e
		}
	}
	return list, l.sync()
}

// check answers the head of frame, if that may be the next one.
func (l *log) check(frame string) (api.Head, api.Errno) {
	h, e := batch.Check(frame, l.most.frame, l.most.plain)
	switch {
	case e != api.OK:
		return api.Head{}, e
	case h.Length != len(frame):
		return api.Head{}, api.ErrLeft
	case h.Base != l.end:
		return api.Head{}, api.ErrOrder
	}
	return h, api.OK
}

// count counts the next frame among those that are known.
func (l *log) count(h api.Head) {
	if l.frames == 0 {
		l.greatest = h.Greatest
	}
	l.greatest = max(l.greatest, h.Greatest)
	l.end = batch.Behind(h)
	l.frames++
}

func (l *log) read(at, n int) (string, api.Errno) {
	if at < 0 || n < 0 || n > l.size-at {
		return "", api.ErrRange
	}
	if l.files == nil {
		// The zero segment has no bytes, and no more than these can be asked for here.
		return "", api.OK
	}
	s, e := l.files.Read(l.name, at, n)
	if e != api.OK {
		return "", e
	}
	return s, api.OK
}

func (l *log) head(at int) (api.Head, api.Errno) {
	s, e := l.read(at, api.HeadSize)
	if e != api.OK {
		return api.Head{}, e
	}
	return batch.Peek(s)
}
