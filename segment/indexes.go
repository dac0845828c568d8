package segment

import (
	"gantry/api"
	"gantry/disk"
	"gantry/names"
	"gantry/offidx"
	"gantry/timeidx"
)

// indexes is the part of a segment that finds: its two indexes, always whole, and the files that get their entries beside, as far as it goes.
type indexes struct {
	every      int
	offsets    offidx.Index
	times      timeidx.Index
	offsetFile indexFile
	timeFile   indexFile
}

func newIndexes(files disk.Files, base int64, c api.Config) indexes {
	return indexes{
		every:      min(max(c.Every, 1), api.MostSegment),
		offsetFile: indexFile{file: newFile(files, base, names.Offsets)},
		timeFile:   indexFile{file: newFile(files, base, names.Times)},
	}
}

// renew makes new files without entries in the place of those that are there, as far as it goes.
func (x *indexes) renew() {
	x.drop()
	x.offsetFile.renew()
	x.timeFile.renew()
}

// drop removes the files that are there.
func (x *indexes) drop() {
	x.offsetFile.remove()
	x.timeFile.remove()
}

// due tells whether the next frame, at this place, has entries.
func (x *indexes) due(at int) bool {
	// Where there is no entry yet it is counted from 0 on, as from the zero Entry's At.
	last, _ := x.offsets.Last()
	return at-int(last.At) >= x.every
}

// enter gives each index its next entry. Neither refuses it: frames follow each other, and the greatest time of them never falls.
func (x *indexes) enter(offset, time api.Entry) {
	x.offsets.Add(offset)
	x.times.Append(time)
	x.offsetFile.put(offidx.Put(offset))
	x.timeFile.put(timeidx.Form(time))
}

// place answers where the last frame with an entry begins whose offset, less the base, is at most key; and how many entries were looked at.
func (x *indexes) place(key int64) (int, int) {
	entry, _, looks := x.offsets.Find(key)
	return int(entry.At), looks
}

func (x *indexes) placeTime(t int64) (int, int) {
	entry, probes, ok := x.times.Find(t)
	if !ok {
		return 0, probes
	}
	at, looks := x.place(entry.At)
	return at, probes + looks
}

func (x *indexes) timeEntries() []api.Entry {
	var entries []api.Entry
	for i := range x.times.Len() {
		entry, _ := x.times.Entry(i)
		entries = append(entries, entry)
	}
	return entries
}
