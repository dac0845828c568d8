package plog_test

import (
	"slices"
	"strconv"
	"strings"
	"testing"

	"gantry/api"
	"gantry/disk"
	"gantry/names"
)

// spy is files that note each call that might change one, as its name, the file's base and ending; and that answer an error for some. Index files must never be read, nor asked for what they hold.
type spy struct {
	*disk.Disk
	t     *testing.T
	calls []string
	fails map[string]api.Errno // by the call as it is noted, without what is appended
}

func newSpy(t *testing.T, d *disk.Disk) *spy {
	return &spy{Disk: d, t: t, fails: map[string]api.Errno{}}
}

func short(name string) string {
	base, kind, ok := names.Parse(name)
	if !ok {
		return name
	}
	return strconv.FormatInt(base, 10) + []string{".log", ".off", ".tim"}[kind]
}

func (f *spy) looked(call, name string) api.Errno {
	if !strings.HasSuffix(name, ".log") {
		f.t.Errorf("%s of %s: no log file is looked into", call, name)
	}
	return f.fails[call+" "+short(name)]
}

func (f *spy) done(call, name string) api.Errno {
	noted := call + " " + short(name)
	f.calls = append(f.calls, noted)
	return f.fails[noted]
}

// took answers the calls since it was last asked.
func (f *spy) took() []string {
	calls := f.calls
	f.calls = nil
	return calls
}

func (f *spy) expect(call string, want ...string) {
	f.t.Helper()
	if got := f.took(); !slices.Equal(got, want) {
		f.t.Errorf("%s calls\n%s, want\n%s", call, strings.Join(got, ", "), strings.Join(want, ", "))
	}
}

func (f *spy) Size(name string) (int, api.Errno) {
	if e := f.looked("size", name); e != api.OK {
		return 0, e
	}
	return f.Disk.Size(name)
}

func (f *spy) Read(name string, at, n int) (string, api.Errno) {
	if e := f.looked("read", name); e != api.OK {
		return "", e
	}
	return f.Disk.Read(name, at, n)
}

func (f *spy) Create(name string) api.Errno {
	if e := f.done("create", name); e != api.OK {
		return e
	}
	return f.Disk.Create(name)
}

func (f *spy) Append(name, data string) (int, api.Errno) {
	if e := f.done("append", name); e != api.OK {
		// Half of it is there, as by a room that ends.
		n, _ := f.Disk.Append(name, data[:len(data)/2])
		return n, e
	}
	return f.Disk.Append(name, data)
}

func (f *spy) Cut(name string, size int) api.Errno {
	if e := f.done("cut", name); e != api.OK {
		return e
	}
	return f.Disk.Cut(name, size)
}

func (f *spy) Sync(name string) api.Errno {
	if e := f.done("sync", name); e != api.OK {
		return e
	}
	return f.Disk.Sync(name)
}

func (f *spy) Remove(name string) api.Errno {
	if e := f.done("remove", name); e != api.OK {
		return e
	}
	return f.Disk.Remove(name)
}

// strange is errors that layer 7 doesn't answer for most calls, or never answers at all.
func strange() []api.Errno {
	return []api.Errno{api.ErrRange, api.ErrNone, api.ErrMost, api.ErrShort, api.ErrOrder, api.ErrDouble, api.ErrOver, -1, 1000}
}
