package power_test

import (
	"math/big"
	"slices"
	"testing"

	"gantry/api"
	"gantry/disk"
	"gantry/power"
)

// paper is a file as it lies on a disk.
type paper struct {
	name, bytes string
	synced      int
}

// sheet is all that a disk tells of itself; its files stand in the order of List.
type sheet struct {
	room, used   int
	files        []paper
	calls, bytes int
}

// sheetOf reads a twin of the disk, so that the disk's own counts stay.
func sheetOf(t *testing.T, d *disk.Disk) sheet {
	t.Helper()
	twin := d.Clone()
	s := sheet{room: d.Room(), used: d.Used()}
	s.calls, s.bytes = d.Reads()
	for _, name := range d.List() {
		n, _ := d.Size(name)
		bytes, e := twin.Read(name, 0, n)
		if e != api.OK {
			t.Fatalf("%q is not read: %d", name, e)
		}
		synced, _ := d.Synced(name)
		s.files = append(s.files, paper{name, bytes, synced})
	}
	return s
}

func (s sheet) find(name string) *paper {
	for i := range s.files {
		if s.files[i].name == name {
			return &s.files[i]
		}
	}
	return nil
}

func sameSheet(a, b sheet) bool {
	return a.room == b.room && a.used == b.used && a.calls == b.calls && a.bytes == b.bytes && slices.Equal(a.files, b.files)
}

func mustBe(t *testing.T, promise string, d *disk.Disk, want sheet) {
	t.Helper()
	if got := sheetOf(t, d); !sameSheet(got, want) {
		t.Fatalf("%s: the disk is %+v, not %+v", promise, got, want)
	}
}

func (s *sheet) reckonUsed() {
	s.used = 0
	for _, f := range s.files {
		s.used += len(f.bytes)
	}
}

// place is At + j, whatever At is.
func place(at, j int) *big.Int { return new(big.Int).Add(big.NewInt(int64(at)), big.NewInt(int64(j))) }

// leftOf is what a crash leaves, byte by byte as the chapter words it.
func leftOf(data string, s int, f api.Fate) string {
	l := len(data)
	if s < 0 {
		s = 0
	}
	if s > l {
		s = l
	}
	k := f.Keep
	if f.Keep < s {
		k = s
	} else if f.Keep > l {
		k = l
	}
	left := []byte(data[:k])
	for _, w := range f.Over {
		for j := range len(w.Data) {
			p := place(w.At, j)
			if p.Cmp(big.NewInt(int64(s))) >= 0 && p.Cmp(big.NewInt(int64(k))) < 0 {
				left[p.Int64()] = w.Data[j]
			}
		}
	}
	return string(left)
}

func kindOf(data string, s int, f api.Fate) power.Kind {
	left := leftOf(data, s, f)
	kind := 0
	if len(left) != len(data) {
		kind = 1
	}
	for i := range len(left) {
		if left[i] != data[i] {
			return power.Kind(kind + 2)
		}
	}
	return power.Kind(kind)
}

// crashed is the sheet behind a crash.
func (s sheet) crashed(fates []api.Fate) sheet {
	s.files = slices.Clone(s.files)
	for i, f := range s.files {
		left := f.bytes[:f.synced]
		for _, fate := range fates {
			if fate.Name == f.name {
				left = leftOf(f.bytes, f.synced, fate)
				break
			}
		}
		s.files[i] = paper{f.name, left, len(left)}
	}
	s.reckonUsed()
	return s
}

// harmed is the sheet behind the harm.
func (s sheet) harmed(fates []api.Fate) sheet {
	s.files = slices.Clone(s.files)
	for _, fate := range fates {
		s.harm(fate)
		s.reckonUsed()
	}
	return s
}

func (s *sheet) harm(fate api.Fate) {
	if len(fate.Name) < 1 || len(fate.Name) > 255 {
		return
	}
	if fate.Keep < 0 {
		s.files = slices.DeleteFunc(s.files, func(f paper) bool { return f.name == fate.Name })
		return
	}
	if s.find(fate.Name) == nil {
		if len(s.files) == 65536 {
			return
		}
		s.files = append(s.files, paper{name: fate.Name})
		slices.SortFunc(s.files, func(a, b paper) int { return compare(a.name, b.name) })
	}
	f := s.find(fate.Name)
	if len(f.bytes) > fate.Keep {
		f.bytes = f.bytes[:fate.Keep]
		f.synced = min(f.synced, fate.Keep)
	}
	for _, w := range fate.Over {
		s.write(f, w)
	}
}

func (s *sheet) write(f *paper, w api.Write) {
	if w.At < 0 || w.At > len(f.bytes) {
		return
	}
	bytes := []byte(f.bytes)
	for j := range len(w.Data) {
		s.reckonUsed()
		free := s.room - s.used - (len(bytes) - len(f.bytes))
		if w.At+j < len(bytes) {
			bytes[w.At+j] = w.Data[j]
		} else if free > 0 {
			bytes = append(bytes, w.Data[j])
		}
	}
	f.bytes = string(bytes)
}

func compare(a, b string) int {
	switch {
	case a < b:
		return -1
	case a > b:
		return 1
	}
	return 0
}

// checked is what Check is to answer.
func (s sheet) checked(fates []api.Fate) api.Errno {
	for i, fate := range fates {
		if len(fate.Name) < 1 || len(fate.Name) > 255 {
			return api.ErrName
		}
		f := s.find(fate.Name)
		if f == nil {
			return api.ErrNone
		}
		for _, ahead := range fates[:i] {
			if ahead.Name == fate.Name {
				return api.ErrFate
			}
		}
		if fate.Keep < f.synced || fate.Keep > len(f.bytes) {
			return api.ErrFate
		}
		for _, w := range fate.Over {
			if w.At < f.synced || place(w.At, len(w.Data)).Cmp(big.NewInt(int64(fate.Keep))) > 0 {
				return api.ErrFate
			}
		}
	}
	return api.OK
}
