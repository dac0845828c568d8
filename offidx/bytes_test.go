package offidx_test

import (
	"math/rand/v2"
	"slices"
	"strings"
	"testing"

	"gantry/api"
	"gantry/offidx"
)

func TestEntrySize(t *testing.T) {
	if offidx.EntrySize != 16 || len(offidx.Put(api.Entry{})) != offidx.EntrySize {
		t.Errorf("an entry has %d bytes, and is put in %d", offidx.EntrySize, len(offidx.Put(api.Entry{})))
	}
}

func TestPutExamples(t *testing.T) {
	for _, c := range []struct {
		entries []api.Entry
		want    string
	}{
		{nil, ""},
		{[]api.Entry{}, ""},
		{[]api.Entry{{}}, strings.Repeat("\x00", 16)},
		{[]api.Entry{{Key: 1, At: -1}}, "\x00\x00\x00\x00\x00\x00\x00\x01\xff\xff\xff\xff\xff\xff\xff\xff"},
		{[]api.Entry{{Key: -2, At: 0x0102030405060708}, {Key: 5, At: 300}}, "\xff\xff\xff\xff\xff\xff\xff\xfe\x01\x02\x03\x04\x05\x06\x07\x08\x00\x00\x00\x00\x00\x00\x00\x05\x00\x00\x00\x00\x00\x00\x01\x2c"},
	} {
		if got := offidx.Put(c.entries...); got != c.want {
			t.Errorf("P10.5: Put(%v) is %x, not %x", c.entries, got, c.want)
		}
		got, e := offidx.Read(c.want)
		if !slices.Equal(got, c.entries) || e != api.OK {
			t.Errorf("P10.5: Read(%x) answers %v, %d, not %v", c.want, got, e, c.entries)
		}
	}
}

// TestPutAndReadEdges: entries of every two numbers at the edges, each by itself and all in one list that keeps no order.
func TestPutAndReadEdges(t *testing.T) {
	var all []api.Entry
	for _, key := range edges() {
		for _, at := range edges() {
			all = append(all, api.Entry{Key: key, At: at})
			mustPut(t, all[len(all)-1:])
		}
	}
	mustPut(t, all)
	slices.Reverse(all)
	mustPut(t, all)
}

func mustPut(t *testing.T, entries []api.Entry) {
	t.Helper()
	s := offidx.Put(entries...)
	if s != chapterBytes(entries) {
		t.Fatalf("P10.5: Put(%v) is %x", entries, s)
	}
	if got, e := offidx.Read(s); !slices.Equal(got, entries) || e != api.OK {
		t.Fatalf("P10.5: Read(%x) answers %v, %d, not %v", s, got, e, entries)
	}
}

// TestReadEveryLength: whatever the bytes are, the length alone says whether they are entries'.
func TestReadEveryLength(t *testing.T) {
	dice := rand.New(rand.NewPCG(10, 1))
	for length := range 200 {
		b := make([]byte, length)
		for i := range b {
			b[i] = byte(dice.Uint32())
		}
		s := string(b)
		entries, e := offidx.Read(s)
		x, f := offidx.Load(s)
		if length%16 != 0 {
			if len(entries) != 0 || e != api.ErrEntries {
				t.Errorf("P10.5: Read of %d bytes answers %v, %d", length, entries, e)
			}
			if x != nil || f != api.ErrEntries {
				t.Errorf("P10.6: Load of %d bytes answers an index, or %d", length, f)
			}
			continue
		}
		if len(entries) != length/16 || e != api.OK || chapterBytes(entries) != s {
			t.Errorf("P10.5: Read(%x) answers %v, %d", s, entries, e)
		}
	}
}

func TestLoadExamples(t *testing.T) {
	for _, c := range []struct {
		entries []api.Entry
		behind  string
		want    api.Errno
	}{
		{nil, "", api.OK},
		{[]api.Entry{{}}, "", api.OK},
		{three(), "", api.OK},
		{[]api.Entry{{Key: 5, At: 0}, {Key: 6, At: 9}}, "", api.OK},
		{[]api.Entry{{Key: 5, At: 0}, {Key: 5, At: 9}}, "", api.ErrOrder},
		{[]api.Entry{{Key: 5, At: 9}, {Key: 6, At: 9}}, "", api.ErrOrder},
		{[]api.Entry{{Key: 5, At: 9}, {Key: 4, At: 10}}, "", api.ErrOrder},
		{[]api.Entry{{Key: 5, At: 9}, {Key: 6, At: 8}}, "", api.ErrOrder},
		{[]api.Entry{{Key: -1, At: 7}}, "", api.ErrOrder},
		{[]api.Entry{{Key: 7, At: -1}}, "", api.ErrOrder},
		{append(three(), three()...), "", api.ErrOrder},
		// Bytes that are no entries' are told ahead of entries that keep no order.
		{[]api.Entry{{Key: 5, At: 0}, {Key: 5, At: 9}}, "x", api.ErrEntries},
		{[]api.Entry{{Key: -1, At: 7}}, "123456789012345", api.ErrEntries},
		{nil, "x", api.ErrEntries},
	} {
		x, e := offidx.Load(chapterBytes(c.entries) + c.behind)
		if e != c.want || (x == nil) != (e != api.OK) {
			t.Errorf("P10.6: Load of %v and %q answers %v, %d, not %d", c.entries, c.behind, x, e, c.want)
			continue
		}
		if e == api.OK {
			mustBe(t, x, &sheet{entries: c.entries})
		}
	}
}

// TestLoadEdges: every two entries of numbers at the edges.
func TestLoadEdges(t *testing.T) {
	for _, a := range edges() {
		for _, b := range edges() {
			for _, c := range edges() {
				for _, d := range edges() {
					mustLoad(t, []api.Entry{{Key: a, At: b}, {Key: c, At: d}})
				}
			}
		}
	}
}

// TestLoadOneOutOfOrder: a long list in which a single entry, at any place, stands wrong or doesn't.
func TestLoadOneOutOfOrder(t *testing.T) {
	for i := range 30 {
		for _, by := range []api.Entry{{}, {Key: 1}, {Key: -1}, {At: 1}, {At: -1}, {Key: 9, At: 9}, {Key: -100}, {At: -100}} {
			var list []api.Entry
			for n := range 30 {
				list = append(list, api.Entry{Key: int64(2 * n), At: int64(2 * n)})
			}
			list[i].Key += by.Key
			list[i].At += by.At
			mustLoad(t, list)
		}
	}
}

func mustLoad(t *testing.T, list []api.Entry) {
	t.Helper()
	x, e := offidx.Load(chapterBytes(list))
	if !inOrder(list) {
		if x != nil || e != api.ErrOrder {
			t.Fatalf("P10.6: Load of %v answers an index, or %d", list, e)
		}
		return
	}
	if x == nil || e != api.OK {
		t.Fatalf("P10.6: Load of %v answers %d", list, e)
	}
	mustBe(t, x, &sheet{entries: list})
}

// TestLoadedGoesOn: an index that was loaded is as one to which the entries were added.
func TestLoadedGoesOn(t *testing.T) {
	x, e := offidx.Load(offidx.Put(three()...))
	if e != api.OK {
		t.Fatalf("P10.6: %d", e)
	}
	p := pair{x, &sheet{entries: three()}}
	p.find(t, 99)
	p.add(t, api.Entry{Key: 100, At: 901})
	p.add(t, api.Entry{Key: 101, At: 901})
	mustBe(t, p.x, p.m)
	p.cut(t, 1)
	p.find(t, 99)
	mustBe(t, p.x, p.m)
}
