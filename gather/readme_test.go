package gather_test

import (
	"math"
	"strings"
	"testing"

	"gantry/api"
	"gantry/gather"
)

// TestReadmeExample runs what README.md shows.
func TestReadmeExample(t *testing.T) {
	b := gather.Bounds{Records: 3, Plain: 100, Frame: 1000, Span: 10, Producer: 7, Seq: math.MaxInt32 - 1}
	g, e := gather.New(b)
	if e != api.OK {
		t.Fatal(e)
	}
	for _, at := range []int64{0, 5, 10} {
		if _, ok, e := g.Add(api.Record{Time: at}); ok || e != api.OK {
			t.Errorf("%t, %d", ok, e)
		}
	}
	if n, bytes := g.Waiting(); n != 3 || bytes != 21 {
		t.Errorf("%d, %d", n, bytes)
	}
	twin := g.Clone()
	full, ok, e := g.Add(api.Record{Time: 10})
	if len(full.Records) != 3 || full.Seq != math.MaxInt32-1 || !ok || e != api.OK || g.Seq() != 1 {
		t.Errorf("%+v, %t, %d, %d", full, ok, e, g.Seq())
	}
	full, ok, e = g.Add(api.Record{Time: -1})
	if len(full.Records) != 1 || full.Seq != 1 || !ok || e != api.OK {
		t.Errorf("%+v, %t, %d", full, ok, e)
	}
	if _, _, e := g.Add(api.Record{Key: api.Opt{Has: true, Data: strings.Repeat("k", 100)}}); e != api.ErrBig {
		t.Errorf("%d", e)
	}
	full, ok = g.Flush()
	if len(full.Records) != 1 || full.Seq != 2 || !ok {
		t.Errorf("%+v, %t", full, ok)
	}
	if n, _ := twin.Waiting(); n != 3 {
		t.Errorf("%d", n)
	}
	l, count, e := gather.Split(b, []api.Record{{Time: 0}, {Time: 11}})
	if len(l) != 2 || len(l[0].Records) != 1 || len(l[1].Records) != 1 || count != 2 || e != api.OK {
		t.Errorf("%+v, %d, %d", l, count, e)
	}
	b.Seq = -1
	if g, e := gather.New(b); g != nil || e != api.ErrRange {
		t.Errorf("%d", e)
	}
}
