package power

import (
	"gantry/api"
	"gantry/disk"
)

// Crash lets the power go: of each file there stays what Left answers by the first fate with its name, and all of that is safe. A file without a fate keeps what was safe; a fate without a file is passed over.
func Crash(d *disk.Disk, fates ...api.Fate) {
	first := firsts(fates)
	for _, name := range d.List() {
		// The zero fate keeps what is safe and writes nothing, as if there were none.
		var fate api.Fate
		if i, ok := first[name]; ok {
			fate = fates[i]
		}
		crash(d, name, fate)
	}
}

// crash does to a file on its disk what Left does to its bytes. It doesn't read them, since reading is counted.
func crash(d *disk.Disk, name string, f api.Fate) {
	length, _ := d.Size(name)
	safe, _ := d.Synced(name)
	part := looseOf(length, safe, f)
	d.Cut(name, part.to)
	for _, w := range f.Over {
		at, data := part.within(w)
		d.Overwrite(name, at, data)
	}
	d.Sync(name)
}

// firsts leads from each name to the place of the first fate with it: a search through the list for each file would take too long.
func firsts(fates []api.Fate) map[string]int {
	first := make(map[string]int, len(fates))
	for i, f := range fates {
		if _, ok := first[f.Name]; !ok {
			first[f.Name] = i
		}
	}
	return first
}

// Check tells whether a crash of the disk by these fates would do just what they say: ErrName where a name can't be one, ErrNone where it is no file's, ErrFate where a fate ahead has the name already, or something is asked for outside of what isn't safe. The first fate with a fault tells its first.
func Check(d *disk.Disk, fates ...api.Fate) api.Errno {
	first := firsts(fates)
	for i, f := range fates {
		if !good(f.Name) {
			return api.ErrName
		}
		length, e := d.Size(f.Name)
		if e != api.OK {
			return api.ErrNone
		}
		safe, _ := d.Synced(f.Name)
		if first[f.Name] != i || !fits(f, safe, length) {
			return api.ErrFate
		}
	}
	return api.OK
}

// fits tells whether a fate keeps all that is safe and no more than there is, and writes between the two alone.
func fits(f api.Fate, safe, length int) bool {
	if f.Keep < safe || f.Keep > length {
		return false
	}
	for _, w := range f.Over {
		if w.At < safe || w.At > f.Keep-len(w.Data) {
			return false
		}
	}
	return true
}

// Least answers for each file, in the order of List, the fate that keeps what is safe and nothing more.
func Least(d *disk.Disk) []api.Fate { return keeping(d, d.Synced) }

// Most answers for each file, in the order of List, the fate that keeps all of it.
func Most(d *disk.Disk) []api.Fate { return keeping(d, d.Size) }

func keeping(d *disk.Disk, keep func(name string) (int, api.Errno)) []api.Fate {
	names := d.List()
	fates := make([]api.Fate, len(names))
	for i, name := range names {
		n, _ := keep(name)
		fates[i] = api.Fate{Name: name, Keep: n}
	}
	return fates
}
