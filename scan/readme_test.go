package scan_test

import (
	"slices"
	"testing"

	"gantry/api"
	"gantry/batch"
	"gantry/disk"
	"gantry/scan"
)

// TestReadmeExample runs what README.md shows.
func TestReadmeExample(t *testing.T) {
	f := encoded(t, api.Batch{Base: 5, Producer: -1, Seq: -1, Records: []api.Record{{Time: 1}, {Time: 2}}})
	g := encoded(t, api.Batch{Base: 7, Producer: -1, Seq: -1, Records: []api.Record{{Time: 3}}})
	list, end, why := scan.All(f+g, 5, 1000, 1000)
	if len(list) != 2 || list[0].At != 0 || list[1].At != 65 || end != 123 || why != api.OK {
		t.Errorf("%+v, %d, %d", list, end, why)
	}
	if list, end, why := scan.All(f+g[:10], 5, 1000, 1000); len(list) != 1 || end != 65 || why != api.ErrShort {
		t.Errorf("%+v, %d, %d", list, end, why)
	}
	if list, end, why := scan.All(f+g, 6, 1000, 1000); len(list) != 0 || end != 0 || why != api.ErrOrder {
		t.Errorf("%+v, %d, %d", list, end, why)
	}
	var next []int64
	for found := range scan.Walk(f+g, 5, 1000, 1000) {
		next = append(next, batch.Behind(found.Head))
	}
	if !slices.Equal(next, []int64{7, 8}) {
		t.Errorf("%d", next)
	}
	if n, ok := scan.Holds(list, 6); n != 0 || !ok {
		t.Errorf("%d, %t", n, ok)
	}
	if _, ok := scan.Holds(list, 8); ok {
		t.Error("a frame has the offset 8")
	}
	d := disk.New(1000)
	d.Create("a")
	d.Append("a", f+g)
	if same, end, why := scan.File(d, "a", 5, 1000, 1000); !slices.Equal(same, list) || end != 123 || why != api.OK {
		t.Errorf("%+v, %d, %d", same, end, why)
	}
	if _, _, why := scan.File(d, "b", 5, 1000, 1000); why != api.ErrNone {
		t.Errorf("%d", why)
	}
}
