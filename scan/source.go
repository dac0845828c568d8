package scan

import (
	"gantry/api"
	"gantry/batch"
	"gantry/disk"
)

// source is where a run's bytes are.
type source interface {
	size() int
	// from answers the bytes from at on, at least as many as Check, told the same most bytes of a frame, needs to answer what it would of all.
	from(at, frame int) string
}

// text is bytes that are all at hand.
type text string

func (t text) size() int { return len(t) }

func (t text) from(at, _ int) string { return string(t[at:]) }

// file is a file's bytes, read as they are asked for; refused is the error by which the last read failed.
type file struct {
	files   disk.Files
	name    string
	length  int
	refused api.Errno
}

func (f *file) size() int { return f.length }

func (f *file) from(at, frame int) string {
	left := f.length - at
	head := f.read(at, min(left, api.HeadSize))
	h, e := batch.Peek(head)
	// Of a frame that is too great, or not whole, or has no head, Check looks at nothing but the head.
	if e != api.OK || h.Length > min(left, max(frame, api.LeastFrame)) {
		return head
	}
	return f.read(at, h.Length)
}

// read answers no bytes where it fails: with these no run goes on.
func (f *file) read(at, n int) string {
	s, e := f.files.Read(f.name, at, n)
	if e != api.OK {
		f.refused = e
		return ""
	}
	return s
}
