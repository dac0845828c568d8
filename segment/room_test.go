package segment_test

import (
	"strconv"
	"testing"

	"gantry/api"
	"gantry/disk"
	"gantry/offidx"
	"gantry/segment"
)

// shelf is what a segment's files hold in a room, reckoned by the document's words.
type shelf struct {
	room          int
	log, off, tim string
}

func (h *shelf) left() int { return h.room - len(h.log) - len(h.off) - len(h.tim) }

// enter puts the entries into the index files, each as far as there is room.
func (h *shelf) enter(offset, time api.Entry) {
	if h.left() >= 16 {
		h.off += offidx.Put(offset)
	}
	if h.left() >= 16 {
		h.tim += offidx.Put(time)
	}
}

// append lays the next frame down, if there is room, and its entries; m has it then too.
func (h *shelf) append(m *sheet, frame string) bool {
	if h.left() < len(frame) {
		return false
	}
	had, _ := m.entries()
	h.log += frame
	m.frames = append(m.frames, frame)
	offsets, times := m.entries()
	if len(offsets) > len(had) {
		h.enter(offsets[len(had)], times[len(had)])
	}
	return true
}

// sizes answers frames of several sizes, so that smaller ones go in where a greater one doesn't.
func sizes(t *testing.T, base int64, n int) string {
	t.Helper()
	r := api.Record{Time: int64(n * 7 % 11), Value: some("vvvvvvvvvvvvvvvvvvvvvvvv"[:n*5%24])}
	return encoded(t, api.Batch{Base: base, Producer: -1, Seq: -1, Records: []api.Record{r}})
}

// TestRoom appends to a segment in every room, byte by byte, and opens it there; the files have what the words say.
func TestRoom(t *testing.T) {
	for room := range 620 {
		name := "room " + strconv.Itoa(room)
		h := shelf{room: room}
		m := sheet{10, 70, nil}
		d := disk.New(room)
		s := m.made(t, d)
		for n := range 8 {
			frame := sizes(t, m.end(), n)
			want := api.ErrFull
			if h.append(&m, frame) {
				want = api.OK
			}
			if e := s.Append(frame); e != want {
				t.Fatalf("P13.6: %s: Append: %d, want %d", name, e, want)
			}
			expectFiles(t, "Words: "+name, d, 10, h.log, h.off, h.tim)
		}
		m.expect(t, name, s)
		opened := shelf{room: room, log: h.log}
		offsets, times := m.entries()
		for i := range offsets {
			opened.enter(offsets[i], times[i])
		}
		m.expect(t, name+", opened", m.opened(t, d, true))
		expectFiles(t, "P13.2: "+name, d, 10, opened.log, opened.off, opened.tim)
	}
}

// TestRoomComesBack: entries that were left out stay out, and later ones are written again when there is room.
func TestRoomComesBack(t *testing.T) {
	for left := range 40 {
		d := disk.New(1000)
		d.Create("ballast")
		m := sheet{10, 1, nil}
		s := m.made(t, d)
		h := shelf{room: 1000}
		for n := range 7 {
			frame := single(t, m.end(), int64(n))
			taken := 0
			if n == 2 || n == 3 {
				taken = h.left() - 60 - left
			}
			d.Append("ballast", string(make([]byte, taken)))
			h.room -= taken
			h.append(&m, frame)
			if e := s.Append(frame); e != api.OK {
				t.Fatalf("P13.6: Append: %d", e)
			}
			d.Cut("ballast", 0)
			h.room += taken
			expectFiles(t, "Words: room for "+strconv.Itoa(left)+" bytes of entries", d, 10, h.log, h.off, h.tim)
		}
		m.expect(t, "room that comes back", s)
	}
}

// TestRoomOfOthers: index files that are there when the segment is opened take no room from the new ones.
func TestRoomOfOthers(t *testing.T) {
	m := sheet{10, 100, five(t)}
	off, tim := m.whole()
	d := disk.New(300 + 64)
	d.Create(logName)
	d.Append(logName, m.text())
	d.Create(offName)
	d.Create(timName)
	d.Append(timName, string(make([]byte, 64)))
	s, e := segment.Open(d, 10, config(100), false)
	if e != api.OK {
		t.Fatalf("P13.2: Open: %d", e)
	}
	m.expect(t, "opened on a full disk", s)
	expectFiles(t, "P13.2: opened on a full disk", d, 10, m.text(), off, tim)
}
