package plog_test

import (
	"strconv"
	"strings"
	"testing"

	"gantry/api"
	"gantry/names"
	"gantry/power"
)

// TestAgain: a log that is opened on the files that another one left is what that was, and whatever has been done to index files, and whatever strays there are, isn't seen.
func TestAgain(t *testing.T) {
	harms := [][]api.Fate{
		nil,
		{{Name: nameOf(5, names.Offsets), Keep: -1}},
		{{Name: nameOf(8, names.Times), Keep: -1}, {Name: nameOf(14, names.Times), Keep: 0}},
		{{Name: nameOf(5, names.Offsets), Keep: 7}, {Name: nameOf(5, names.Times), Keep: 1 << 20, Over: []api.Write{{At: 0, Data: "turned"}}}},
		{{Name: nameOf(10, names.Offsets), Keep: 0, Over: []api.Write{{At: 0, Data: strings.Repeat("\x00", 160)}}}},
		{{Name: nameOf(14, names.Offsets), Keep: 99, Over: []api.Write{{At: 0, Data: strings.Repeat("x", 20000)}}}},
		{{Name: nameOf(2, names.Offsets), Keep: 9}, {Name: nameOf(12, names.Times), Keep: 9}, {Name: nameOf(99, names.Offsets), Keep: 9}},
		{{Name: "5.log", Keep: 0}, {Name: "00000000000000000005.logs", Keep: 0}, {Name: "zzz", Keep: 0}},
	}
	for i, harm := range harms {
		name := "P6: harm " + strconv.Itoa(i)
		p := long(t)
		power.Harm(p.d, harm...)
		p.reopen(t)
		strays := []string{}
		if i == len(harms)-1 {
			strays = []string{"5.log", "00000000000000000005.logs", "zzz"}
		}
		p.expect(t, name, strays...)
		p.append(t, name+", and on", single(t, 1), sent(t, 1, 6, 1), sent(t, 1, 3, 3))
		p.trim(t, name+", and on", 11)
		p.expect(t, name+", and on", strays...)
	}
}

// TestAgainOnFullDisk: strays may take all room; the answers are the same, and ErrFull where a frame needs room.
func TestAgainOnFullDisk(t *testing.T) {
	for room := 7 * 60; room < 700; room++ {
		p := long(t)
		for _, part := range p.m.parts {
			p.d.Remove(nameOf(part.base, names.Offsets))
			p.d.Remove(nameOf(part.base, names.Times))
		}
		ballast := p.m.c.Room - room
		put(p.d, "stray", strings.Repeat("b", ballast))
		p.m.c.Room = room
		p.m.reopen()
		p.l = opened(t, p.d, config())
		p.append(t, "on a full disk", single(t, 1), single(t, 2))
		p.m.expectFiles(t, "P15.6: room "+strconv.Itoa(room), p.d, "stray")
		p.m.c.Room += ballast
		p.m.expect(t, "on a full disk", p.l)
	}
}

// TestAgainByOthers: other numbers for Room and First are no matter; by another Segment and Every the frames and bases are the same.
func TestAgainByOthers(t *testing.T) {
	p := long(t)
	p.m.c.Room, p.m.c.First = 7, 1000
	p.l = opened(t, p.d, p.m.c)
	p.m.expect(t, "another room and first offset", p.l)
	p.m.c = config()
	p.m.c.Segment, p.m.c.Every = 1000, 1
	p.reopen(t)
	p.expect(t, "P15.1: other segments and entries")
	p.append(t, "other segments", single(t, 1), single(t, 2))
	if p.l.Segments() != 4 {
		t.Errorf("P15.3: %d segments", p.l.Segments())
	}
	p.expect(t, "P15.1: other segments and entries, and on")
}

// TestCrash: behind a crash the log has the first ones of its frames, and all that had been appended ahead of the last flush; for every number of bytes that the last log file keeps.
func TestCrash(t *testing.T) {
	for flushed := range 8 {
		whole := newPair(t, config())
		for i := range 7 {
			if i == flushed {
				whole.flush(t, "crash")
			}
			whole.append(t, "crash", sent(t, 1, int32(i), 1))
		}
		if flushed == 7 {
			whole.flush(t, "crash")
		}
		last := whole.m.last()
		for keep := range len(last.text()) + 2 {
			p := &pair{m: whole.m.clone(), d: whole.d.Clone()}
			power.Crash(p.d, api.Fate{Name: nameOf(last.base, names.Log), Keep: keep})
			kept := p.m.last()
			for len(kept.text()) > max(keep, kept.synced) {
				kept.frames = kept.frames[:len(kept.frames)-1]
			}
			p.reopen(t)
			name := "P2: " + strconv.Itoa(flushed) + " flushed, " + strconv.Itoa(keep) + " bytes kept"
			p.expect(t, name)
			if p.l.End() < 5+int64(flushed) {
				t.Errorf("%s: the end is %d", name, p.l.End())
			}
			p.append(t, name+", and on", sent(t, 1, 7, 1), sent(t, 1, int32(p.m.end()-5), 1))
			p.expect(t, name+", and on")
		}
	}
}

// TestCrashBehindRefusal: what was refused isn't there behind a crash either, even one that keeps all bytes.
func TestCrashBehindRefusal(t *testing.T) {
	for left := range 60 {
		for n := 1; n < 4; n++ {
			c := config()
			c.Room = n*60 + n/2*32 + left
			p := newPair(t, c)
			for range n {
				p.append(t, "refusal", single(t, 1))
			}
			p.append(t, "refusal", single(t, 2))
			if p.l.End() != 5+int64(n) {
				t.Fatalf("P8: with %d bytes left the end is %d", left, p.l.End())
			}
			power.Crash(p.d, power.Most(p.d)...)
			p.reopen(t)
			p.expect(t, "P8: behind a refusal")
		}
	}
}
