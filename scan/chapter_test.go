package scan_test

import (
	"math/rand/v2"
	"slices"
	"strings"
	"testing"

	"gantry/api"
	"gantry/batch"
	"gantry/disk"
	"gantry/scan"
)

// running is the run as the chapter words it, in another way than the program's: the first frame, and the run of what is behind it.
func running(src string, wanted int64, frame, plain int) ([]scan.Found, int, api.Errno) {
	h, e := batch.Check(src, frame, plain)
	switch {
	case src == "":
		return nil, 0, api.OK
	case e != api.OK:
		return nil, 0, e
	case h.Base != wanted:
		return nil, 0, api.ErrOrder
	}
	list := []scan.Found{{Head: h, At: 0}}
	rest, end, why := running(src[h.Length:], h.Base+int64(h.Count), frame, plain)
	for _, f := range rest {
		f.At += h.Length
		list = append(list, f)
	}
	return list, h.Length + end, why
}

// guard is files that may be asked for sizes and bytes alone; it notes what is read.
type guard struct {
	disk.Files
	t               *testing.T
	greatest, bytes int
}

func (g *guard) Read(name string, at, n int) (string, api.Errno) {
	g.greatest = max(g.greatest, n)
	g.bytes += n
	return g.Files.Read(name, at, n)
}

func (g *guard) refuse(call string) api.Errno {
	g.t.Errorf("P12.3: File calls %s", call)
	return api.ErrNone
}

func (g *guard) Create(string) api.Errno                { return g.refuse("Create") }
func (g *guard) Append(string, string) (int, api.Errno) { return 0, g.refuse("Append") }
func (g *guard) Cut(string, int) api.Errno              { return g.refuse("Cut") }
func (g *guard) Sync(string) api.Errno                  { return g.refuse("Sync") }
func (g *guard) Remove(string) api.Errno                { return g.refuse("Remove") }

// onDisk answers a disk with src in the file f, of which the first half is safe, and another file beside it.
func onDisk(src string) *disk.Disk {
	d := disk.New(len(src) + 5)
	d.Create("f")
	d.Append("f", src[:len(src)/2])
	d.Sync("f")
	d.Append("f", src[len(src)/2:])
	d.Create("g")
	d.Append("g", "other")
	return d
}

// expectRun holds All, Walk and File against the chapter's words, and answers how many frames the run has and why it ends.
func expectRun(t *testing.T, name, src string, base int64, frame, plain int) (int, api.Errno) {
	t.Helper()
	list, end, why := running(src, base, frame, plain)
	got, at, e := scan.All(src, base, frame, plain)
	if !slices.Equal(got, list) || at != end || e != why {
		t.Errorf("P12.1: %s: All of base %d: %+v, %d, %d, want %+v, %d, %d", name, base, got, at, e, list, end, why)
	}
	if got := slices.Collect(scan.Walk(src, base, frame, plain)); !slices.Equal(got, list) {
		t.Errorf("P12.2: %s: Walk of base %d: %+v, want %+v", name, base, got, list)
	}
	expectFile(t, name, src, base, frame, plain)
	return len(list), why
}

// expectFile holds File against the chapter's words, what it reads against its bounds, and the files behind it against those ahead.
func expectFile(t *testing.T, name, src string, base int64, frame, plain int) {
	t.Helper()
	list, end, why := running(src, base, frame, plain)
	d := onDisk(src)
	g := &guard{Files: d, t: t}
	got, at, e := scan.File(g, "f", base, frame, plain)
	if !slices.Equal(got, list) || at != end || e != why {
		t.Errorf("P12.3: %s: File of base %d: %+v, %d, %d, want %+v, %d, %d", name, base, got, at, e, list, end, why)
	}
	if most := 16 * (len(src) + 51); g.bytes > most {
		t.Errorf("P12.3: %s: File reads %d bytes of %d, at most %d are allowed", name, g.bytes, len(src), most)
	}
	if g.greatest > min(max(frame, 58), 1<<24) {
		t.Errorf("P12.3: %s: File holds %d bytes, and a frame has at most %d", name, g.greatest, frame)
	}
	expectUntouched(t, name, d, src)
}

func expectUntouched(t *testing.T, name string, d *disk.Disk, src string) {
	t.Helper()
	bytes, e := d.Read("f", 0, len(src))
	size, _ := d.Size("f")
	synced, _ := d.Synced("f")
	other, _ := d.Read("g", 0, 5)
	if bytes != src || e != api.OK || size != len(src) || synced != len(src)/2 || other != "other" || strings.Join(d.List(), " ") != "f g" {
		t.Errorf("P12.3: %s: the files are changed: %d bytes of %d, %d safe, %q", name, size, len(src), synced, d.List())
	}
}

// expectEnd is expectRun under the greatest limits, held against the number of frames and the reason.
func expectEnd(t *testing.T, name, src string, base int64, count int, why api.Errno) {
	t.Helper()
	if n, e := expectRun(t, name, src, base, api.MostFrame, api.MostPlain); n != count || e != why {
		t.Errorf("P12.1: %s: %d frames, %d, want %d, %d", name, n, e, count, why)
	}
}

func encoded(t *testing.T, b api.Batch) string {
	t.Helper()
	s, e := batch.Encode(b)
	if e != api.OK {
		t.Fatalf("Encode: %d", e)
	}
	return s
}

func some(data string) api.Opt { return api.Opt{Has: true, Data: data} }

// least answers a frame of count records of the least size.
func least(t *testing.T, base int64, count int) string {
	t.Helper()
	return encoded(t, api.Batch{Base: base, Producer: -1, Seq: -1, Records: make([]api.Record, count)})
}

// pair answers the chapter's F and G.
func pair(t *testing.T) (string, string) {
	t.Helper()
	f := encoded(t, api.Batch{Base: 5, Producer: 8, Seq: 2, Records: []api.Record{{Time: 9, Value: some("value")}, {Time: 4}}})
	if len(f) != 70 {
		t.Fatalf("F has %d bytes", len(f))
	}
	return f, least(t, 7, 1)
}

// turned answers s with some bits of one byte turned.
func turned(s string, at int, bits byte) string {
	b := []byte(s)
	b[at] ^= bits
	return string(b)
}

// dice chooses batches and bytes.
type dice struct {
	*rand.Rand
}

func newDice(seed uint64) dice { return dice{rand.New(rand.NewPCG(seed, 12))} }

func (d dice) text() string {
	s := make([]byte, d.IntN([]int{1, 4, 30, 90}[d.IntN(4)]))
	for i := range s {
		s[i] = "ab\x00G"[d.IntN(4)]
	}
	return string(s)
}

func (d dice) batch(base int64) api.Batch {
	b := api.Batch{Base: base, Packed: d.IntN(2) == 0, Producer: -1, Seq: -1}
	if d.IntN(2) == 0 {
		b.Producer, b.Seq = int64(d.IntN(9)), int32(d.IntN(9))
	}
	for range 1 + d.IntN(4) {
		b.Records = append(b.Records, api.Record{Time: d.Int64N(100) - 50, Key: api.Opt{Has: d.IntN(2) == 0, Data: d.text()}, Value: some(d.text())})
	}
	return b
}

// frames answers right frames that follow each other, from base on.
func (d dice) frames(t *testing.T, base int64, count int) []string {
	t.Helper()
	var out []string
	for range count {
		b := d.batch(base)
		out = append(out, encoded(t, b))
		base += int64(len(b.Records))
	}
	return out
}

// ends answers the places behind each of the frames.
func ends(frames []string) []int {
	var out []int
	at := 0
	for _, f := range frames {
		at += len(f)
		out = append(out, at)
	}
	return out
}

// endedBy answers how many of the frames end at the place at or ahead of it.
func endedBy(frames []string, at int) int {
	n := 0
	for _, end := range ends(frames) {
		if end <= at {
			n++
		}
	}
	return n
}
