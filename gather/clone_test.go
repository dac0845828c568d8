package gather_test

import (
	"testing"

	"gantry/api"
	"gantry/gather"
)

func TestNil(t *testing.T) {
	var g *gather.Gather
	for range 2 {
		if b, ok, e := g.Add(api.Record{}); ok || e != api.ErrNone || !equal(b, api.Batch{}) {
			t.Errorf("P19.7: Add of nil answers %+v, %t, %d", b, ok, e)
		}
		if b, ok, e := g.Add(api.Record{Headers: make([]api.Header, 1025)}); ok || e != api.ErrNone || !equal(b, api.Batch{}) {
			t.Errorf("P19.7: Add of nil answers %+v, %t, %d", b, ok, e)
		}
		if b, ok := g.Flush(); ok || !equal(b, api.Batch{}) {
			t.Errorf("P19.7: Flush of nil answers %+v, %t", b, ok)
		}
		if n, bytes := g.Waiting(); n != 0 || bytes != 0 || g.Seq() != 0 || g.Clone() != nil {
			t.Errorf("P19.7: of nil %d wait, of %d bytes, Seq %d", n, bytes, g.Seq())
		}
	}
}

// TestZero holds the zero Gather, a clone of it, and one that was refused a record, against one that New makes.
func TestZero(t *testing.T) {
	first := &gather.Gather{}
	if n, bytes := first.Waiting(); n != 0 || bytes != 0 || first.Seq() != -1 {
		t.Errorf("P19.7: of the zero Gather %d wait, of %d bytes, Seq %d", n, bytes, first.Seq())
	}
	if b, ok := first.Flush(); ok || !equal(b, api.Batch{}) {
		t.Errorf("P19.7: Flush of the zero Gather answers %+v, %t", b, ok)
	}
	refused := &gather.Gather{}
	if _, ok, e := refused.Add(sized(10)); ok || e != api.ErrBig {
		t.Errorf("P19.7: Add to the zero Gather answers %t, %d", ok, e)
	}
	twin := (&gather.Gather{}).Clone()
	if twin == nil {
		t.Fatal("P19.7: the zero Gather has no clone")
	}
	made, _ := gather.New(zero().b)
	for _, g := range []*gather.Gather{first, refused, twin, refused.Clone(), made} {
		p := pair{g, zero()}
		p.mustBe(t)
		p.flush(t)
		for i := range int64(3) {
			p.add(t, api.Record{Time: 5})
			p.add(t, api.Record{Time: i})
			p.add(t, sized(10))
			p.add(t, api.Record{Headers: make([]api.Header, 1025)})
		}
		p.flush(t)
		p.flush(t)
	}
}

func TestClone(t *testing.T) {
	p := newPair(t, gather.Bounds{Records: 3, Plain: 40, Frame: 100, Span: 10, Packed: true, Producer: 5, Seq: 9})
	for i := range int64(12) {
		p.add(t, api.Record{Time: i, Key: some("k"), Headers: []api.Header{{Key: "h"}}})
		twin, other := p.clone(), p.clone()
		twin.flush(t)
		other.add(t, api.Record{Time: 100 * i})
		twin.add(t, api.Record{Time: 7})
		other.clone().flush(t)
		p.mustBe(t)
		other.mustBe(t)
		other.add(t, api.Record{Time: 100*i + 1})
		twin.flush(t)
		other.flush(t)
		p.mustBe(t)
	}
	p.flush(t)
}

// TestClonesAreApart writes over what a clone hands out, and looks at what the other does.
func TestClonesAreApart(t *testing.T) {
	p := newPair(t, wide())
	for i := range int64(5) {
		p.add(t, api.Record{Time: i, Headers: []api.Header{{Key: "h"}}})
	}
	twin := p.clone()
	b, _ := twin.g.Flush()
	spoil(b)
	p.add(t, api.Record{Time: 5})
	p.flush(t)
}

// spoil writes over all that a batch holds, its lists' spare room too.
func spoil(b api.Batch) {
	for _, r := range b.Records {
		for i := range r.Headers[:cap(r.Headers)] {
			r.Headers[:cap(r.Headers)][i] = api.Header{Key: "spoilt"}
		}
	}
	all := b.Records[:cap(b.Records)]
	for i := range all {
		all[i] = api.Record{Time: -99, Key: some("spoilt")}
	}
}

// TestWhatIsHandedOutIsApart writes over every batch at once, and over what was handed in.
func TestWhatIsHandedOutIsApart(t *testing.T) {
	for records := 1; records < 6; records++ {
		b := wide()
		b.Records = records
		p := newPair(t, b)
		for i := range int64(40) {
			r := api.Record{Time: i, Key: some("k"), Headers: []api.Header{{Key: "a"}, {Key: "b", Value: some("c")}}}
			want, _, _ := p.m.add(r)
			got, _, e := p.g.Add(r)
			if !equal(got, want) || e != api.OK {
				t.Fatalf("P19.7: %d records at a time: %+v, %d, not %+v", records, got, e, want)
			}
			spoil(got)
			r.Headers[0].Key, r.Headers[1].Value = "other", some("other")
			if i%7 == 0 {
				want, _ := p.m.flush()
				got, _ := p.g.Flush()
				if !equal(got, want) {
					t.Fatalf("P19.7: %d records at a time: %+v, not %+v", records, got, want)
				}
				spoil(got)
			}
		}
	}
}

// TestSplitIsApart writes over a list that was handed in, its spare room was left, and over one batch after another.
func TestSplitIsApart(t *testing.T) {
	headers := make([]api.Header, 2, 4)
	headers[0].Key, headers[1].Value = "h", api.Opt{Data: "d"}
	list := make([]api.Record, 0, 20)
	for i := range int64(10) {
		list = append(list, api.Record{Time: i, Value: api.Opt{Data: "d"}, Headers: headers})
	}
	b := wide()
	b.Records = 3
	l := mustSplit(t, b, list, []int{3, 3, 3, 1}, nil)
	for _, r := range list {
		if r.Value.Data != "d" || r.Headers[1].Value.Data != "d" {
			t.Fatalf("P19.7: what was handed in is %+v", r)
		}
	}
	for _, r := range list[:20][10:] {
		if r.Headers != nil || r.Time != 0 {
			t.Fatalf("P19.7: the spare room is %+v", r)
		}
	}
	for i := range list {
		list[i].Time = -1
	}
	headers[0].Key = "other"
	all := headers[:4]
	if all[2] != (api.Header{}) || all[3] != (api.Header{}) {
		t.Fatalf("P19.7: the headers' spare room is %+v", all)
	}
	next := int64(0)
	for _, x := range l {
		for i := range x.Records {
			r := x.Records[i]
			if r.Time != next || len(r.Headers) != 2 || r.Headers[0].Key != "h" {
				t.Fatalf("P19.7: record %d is %+v", next, r)
			}
			r.Headers[0].Key = "spoilt"
			next++
		}
		spoil(x)
	}
}
