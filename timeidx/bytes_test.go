package timeidx_test

import (
	"math/rand/v2"
	"strings"
	"testing"

	"gantry/api"
	"gantry/timeidx"
)

func TestEntrySize(t *testing.T) {
	if timeidx.EntrySize != 16 || len(timeidx.Form(api.Entry{})) != timeidx.EntrySize {
		t.Errorf("an entry has %d bytes, and its form %d", timeidx.EntrySize, len(timeidx.Form(api.Entry{})))
	}
}

func TestFormExamples(t *testing.T) {
	for _, c := range []struct {
		e    api.Entry
		want string
	}{
		{api.Entry{}, strings.Repeat("\x00", 16)},
		{api.Entry{Key: -1, At: 2}, "\xff\xff\xff\xff\xff\xff\xff\xff\x00\x00\x00\x00\x00\x00\x00\x02"},
		{api.Entry{Key: 1, At: -1}, "\x00\x00\x00\x00\x00\x00\x00\x01\xff\xff\xff\xff\xff\xff\xff\xff"},
		{api.Entry{Key: 0x0102030405060708, At: 300}, "\x01\x02\x03\x04\x05\x06\x07\x08\x00\x00\x00\x00\x00\x00\x01\x2c"},
	} {
		if got := timeidx.Form(c.e); got != c.want {
			t.Errorf("P11.5: Form(%v) is %x, not %x", c.e, got, c.want)
		}
	}
}

// TestFormEdges: entries of every two numbers at the edges have a form, those too that no index takes.
func TestFormEdges(t *testing.T) {
	for _, key := range edges() {
		for _, at := range edges() {
			e := api.Entry{Key: key, At: at}
			if got := timeidx.Form(e); got != chapterBytes([]api.Entry{e}) {
				t.Errorf("P11.5: Form(%v) is %x", e, got)
			}
		}
	}
}

func TestBytesAreForms(t *testing.T) {
	p := newPair(t)
	forms := ""
	for n := range 30 {
		e := api.Entry{Key: int64(n/3 - 5), At: int64(n * 70)}
		p.push(t, e)
		forms += timeidx.Form(e)
		if p.x.Bytes() != forms {
			t.Fatalf("P11.5: Bytes are %x, not %x", p.x.Bytes(), forms)
		}
	}
}

// TestReadEveryLength: bytes whose length is no entries' are refused for that, whatever they are.
func TestReadEveryLength(t *testing.T) {
	dice := rand.New(rand.NewPCG(11, 1))
	for length := range 200 {
		b := make([]byte, length)
		for i := range b {
			b[i] = byte(dice.Uint32())
		}
		x, e := timeidx.Read(string(b))
		if length%16 != 0 && (x != nil || e != api.ErrEntries) {
			t.Errorf("P11.5: Read of %d bytes answers an index, or %d", length, e)
		}
		if length%16 == 0 && e == api.ErrEntries {
			t.Errorf("P11.5: Read of %d bytes answers ErrEntries", length)
		}
	}
}

func TestReadExamples(t *testing.T) {
	for _, c := range []struct {
		entries []api.Entry
		behind  string
		want    api.Errno
	}{
		{nil, "", api.OK},
		{[]api.Entry{{}}, "", api.OK},
		{three(), "", api.OK},
		{[]api.Entry{{Key: -9, At: 0}, {Key: -9, At: 1}}, "", api.OK},
		{[]api.Entry{{Key: 5, At: 9}, {Key: 6, At: 9}}, "", api.ErrOrder},
		{[]api.Entry{{Key: 5, At: 9}, {Key: 4, At: 10}}, "", api.ErrOrder},
		{[]api.Entry{{Key: 5, At: 9}, {Key: 6, At: 8}}, "", api.ErrOrder},
		{[]api.Entry{{Key: 7, At: -1}}, "", api.ErrRange},
		{append(three(), three()...), "", api.ErrOrder},
		// Of several entries that can't stand there the first is told.
		{[]api.Entry{{Key: 5, At: 9}, {Key: 4, At: 10}, {Key: 6, At: -1}}, "", api.ErrOrder},
		{[]api.Entry{{Key: 5, At: 9}, {Key: 6, At: -1}, {Key: 4, At: 10}}, "", api.ErrRange},
		{[]api.Entry{{Key: 5, At: 9}, {Key: 4, At: -1}}, "", api.ErrRange},
		// Bytes that are no entries' are told ahead of entries that can't stand there.
		{three(), "x", api.ErrEntries},
		{[]api.Entry{{Key: 5, At: 9}, {Key: 5, At: 9}}, "x", api.ErrEntries},
		{[]api.Entry{{Key: 7, At: -1}}, "123456789012345", api.ErrEntries},
		{nil, "x", api.ErrEntries},
	} {
		x, e := timeidx.Read(chapterBytes(c.entries) + c.behind)
		if e != c.want || (x == nil) != (e != api.OK) {
			t.Errorf("P11.5: Read of %v and %q answers %v, %d, not %d", c.entries, c.behind, x, e, c.want)
			continue
		}
		if e == api.OK {
			mustBe(t, x, &sheet{entries: c.entries})
		}
	}
}

// TestReadEdges: every two entries of numbers at the edges.
func TestReadEdges(t *testing.T) {
	for _, a := range edges() {
		for _, b := range edges() {
			for _, c := range edges() {
				for _, d := range edges() {
					mustRead(t, []api.Entry{{Key: a, At: b}, {Key: c, At: d}})
				}
			}
		}
	}
}

// TestReadOneOutOfOrder: a long list in which a single entry, at any place, stands wrong or doesn't.
func TestReadOneOutOfOrder(t *testing.T) {
	for i := range 30 {
		for _, by := range []api.Entry{{}, {Key: 1}, {Key: -1}, {Key: 2}, {Key: -2}, {Key: 3}, {Key: -3}, {At: 1}, {At: -1}, {At: 2}, {At: -2}, {Key: 9, At: 9}, {Key: -100}, {At: -100}} {
			var list []api.Entry
			for n := range 30 {
				list = append(list, api.Entry{Key: int64(2 * n), At: int64(2 * n)})
			}
			list[i].Key += by.Key
			list[i].At += by.At
			mustRead(t, list)
		}
	}
}

func mustRead(t *testing.T, list []api.Entry) {
	t.Helper()
	x, e := timeidx.Read(chapterBytes(list))
	if want := fault(list); e != want || (x == nil) != (want != api.OK) {
		t.Fatalf("P11.5: Read of %v answers %v, %d, not %d", list, x, e, want)
	}
	if e == api.OK {
		mustBe(t, x, &sheet{entries: list})
	}
}

// TestReadGoesOn: an index that was read is as one to which the entries were appended.
func TestReadGoesOn(t *testing.T) {
	x, e := timeidx.Read(chapterBytes(three()))
	if e != api.OK {
		t.Fatalf("P11.5: %d", e)
	}
	p := pair{x, &sheet{entries: three()}}
	p.find(t, 7)
	p.push(t, api.Entry{Key: 6, At: 21})
	p.push(t, api.Entry{Key: 7, At: 20})
	p.push(t, api.Entry{Key: 7, At: 21})
	mustBe(t, p.x, p.m)
	p.cut(t, 1)
	p.find(t, 7)
	mustBe(t, p.x, p.m)
}
