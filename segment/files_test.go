package segment_test

import (
	"slices"
	"strconv"
	"strings"
	"testing"

	"gantry/api"
	"gantry/disk"
)

// spy is files that note each call that might change one, as its first letter and the file's ending; and that answer an error for some. Index files must never be read, nor asked for what they hold.
type spy struct {
	*disk.Disk
	t     *testing.T
	calls []string
	fails map[string]api.Errno // by the call as it is noted
}

func newSpy(t *testing.T, d *disk.Disk) *spy {
	return &spy{Disk: d, t: t, fails: map[string]api.Errno{}}
}

func ending(name string) string { return name[max(len(name)-3, 0):] }

func (f *spy) looked(call, name string) api.Errno {
	if ending(name) != "log" {
		f.t.Errorf("an index file is looked into: %s of %s", call, name)
	}
	return f.fails[call+" "+ending(name)]
}

func (f *spy) done(call, name string, numbers ...int) api.Errno {
	noted := call + " " + ending(name)
	e := f.fails[noted]
	for _, n := range numbers {
		noted += " " + strconv.Itoa(n)
	}
	f.calls = append(f.calls, noted)
	return e
}

// took answers the calls since it was last asked.
func (f *spy) took() []string {
	calls := f.calls
	f.calls = nil
	return calls
}

func (f *spy) expect(call string, want ...string) {
	f.t.Helper()
	if got := f.took(); !slices.Equal(got, want) {
		f.t.Errorf("%s calls\n%s, want\n%s", call, strings.Join(got, ", "), strings.Join(want, ", "))
	}
}

func (f *spy) List() []string {
	f.t.Error("List is called")
	return f.Disk.List()
}

func (f *spy) Size(name string) (int, api.Errno) {
	n, e := f.Disk.Size(name)
	if failing := f.looked("size", name); failing != api.OK {
		e = failing
	}
	return n, e
}

func (f *spy) Read(name string, at, n int) (string, api.Errno) {
	s, e := f.Disk.Read(name, at, n)
	if failing := f.looked("read", name); failing != api.OK {
		e = failing
	}
	return s, e
}

func (f *spy) Create(name string) api.Errno {
	if e := f.done("create", name); e != api.OK {
		return e
	}
	return f.Disk.Create(name)
}

func (f *spy) Append(name, data string) (int, api.Errno) {
	if e := f.done("append", name, len(data)); e != api.OK {
		// Half of it is there, as by a room that ends.
		n, _ := f.Disk.Append(name, data[:len(data)/2])
		return n, e
	}
	return f.Disk.Append(name, data)
}

func (f *spy) Cut(name string, size int) api.Errno {
	if e := f.done("cut", name, size); e != api.OK {
		return e
	}
	return f.Disk.Cut(name, size)
}

func (f *spy) Sync(name string) api.Errno {
	if e := f.done("sync", name); e != api.OK {
		return e
	}
	return f.Disk.Sync(name)
}

func (f *spy) Remove(name string) api.Errno {
	if e := f.done("remove", name); e != api.OK {
		return e
	}
	return f.Disk.Remove(name)
}

// strange is errors that layer 7 never answers for the calls that fail here, or never answers at all; some of them are a scan's own numbers.
func strange() []api.Errno {
	return []api.Errno{api.ErrRange, api.ErrNone, api.ErrMost, api.ErrShort, api.ErrSum, api.ErrOrder, api.ErrBatch, api.ErrClosed, -1, 1000}
}
