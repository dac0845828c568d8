package power

import (
	"gantry/api"
	"gantry/disk"
)

// Harm does harm to files, fate by fate: one whose Keep is below 0 is removed; another is made, if there is none, cut to Keep, if it is longer, and written over and lengthened.
func Harm(d *disk.Disk, fates ...api.Fate) {
	for _, f := range fates {
		if good(f.Name) {
			harm(d, f)
		}
	}
}

func harm(d *disk.Disk, f api.Fate) {
	if f.Keep < 0 {
		d.Remove(f.Name)
		return
	}
	length, e := d.Size(f.Name)
	if e != api.OK && d.Create(f.Name) != api.OK {
		return
	}
	if length > f.Keep {
		d.Cut(f.Name, f.Keep)
	}
	for _, w := range f.Over {
		write(d, f.Name, w)
	}
}

// write lays a write's bytes over the file's, and behind them those that reach beyond its end; what begins outside of the file is passed over.
func write(d *disk.Disk, name string, w api.Write) {
	length, _ := d.Size(name)
	if w.At < 0 || w.At > length {
		return
	}
	n := min(len(w.Data), length-w.At)
	d.Overwrite(name, w.At, w.Data[:n])
	d.Append(name, w.Data[n:])
}
