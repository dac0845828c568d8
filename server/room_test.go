package server_test

import (
	"strings"
	"testing"

	"gantry/api"
	"gantry/disk"
	"gantry/server"
)

// TestRoom: what finds no room is refused, and what needs less is taken behind it.
func TestRoom(t *testing.T) {
	c := config()
	c.Room = 150
	p := newPair(t, c)
	f := frame(t, -1, -1, 1)
	great := encoded(t, api.Batch{Producer: -1, Seq: -1, Records: []api.Record{{Value: api.Opt{Has: true, Data: strings.Repeat("g", 60)}}}})
	if len(f) != 59 || len(great) < 100 {
		t.Fatalf("frames of %d and %d bytes", len(f), len(great))
	}
	for _, step := range []struct {
		data string
		want api.Reply
	}{
		{f, api.Reply{Kind: 1, Offset: 5}},
		{great, api.Reply{Kind: 1, Err: api.ErrFull}},
		{f, api.Reply{Kind: 1, Offset: 6}},
		{f, api.Reply{Kind: 1, Err: api.ErrFull}},
	} {
		if got := p.s.Do(api.Request{Kind: api.AskProduce, Data: step.data}); got != step.want {
			t.Errorf("P18.2: produced: %s, want %s", toldReply(got), toldReply(step.want))
		}
	}
	if n := p.s.Asked(); n != [7]int{1: 4} {
		t.Errorf("P18.4: Asked: %d", n)
	}
	if got := p.s.Ask(form(t, api.Request{Kind: api.AskProduce, Data: f})); got != "\x01\x00\x00\x00\x02" {
		t.Errorf("P18.3: Ask without room: %s", short(got))
	}
}

// greatLog answers a server over a log of n frames of MostFrame bytes, each in a segment of its own, and the bytes of the first.
func greatLog(t *testing.T, n int) (*server.Server, string) {
	t.Helper()
	c := api.Config{Segment: 1, Frame: api.MostFrame, Plain: api.MostPlain, Every: api.MostSegment, Room: 1 << 40}
	r := api.Record{Value: api.Opt{Has: true, Data: strings.Repeat("m", api.MostFrame-api.HeadSize-13)}}
	f := encoded(t, api.Batch{Producer: -1, Seq: -1, Records: []api.Record{r}})
	if len(f) != api.MostFrame {
		t.Fatalf("the frame has %d bytes, %d too many", len(f), len(f)-api.MostFrame)
	}
	s := server.New(opened(t, disk.New(c.Room), c))
	for i := range n {
		if a := s.Do(api.Request{Kind: api.AskProduce, Data: f}); a != (api.Reply{Kind: api.AskProduce, Offset: int64(i)}) {
			t.Fatalf("P18.2: produced: %s", toldReply(a))
		}
	}
	return s, f
}

// TestMostFetched: a Most above MostFile - MostFrame counts as that, so that what is fetched has a form.
func TestMostFetched(t *testing.T) {
	if testing.Short() {
		t.Skip("it takes three gigabytes of memory")
	}
	const frames = api.MostFile / api.MostFrame
	s, f := greatLog(t, frames+2)
	a := s.Do(api.Request{Kind: api.AskFetch, Offset: 1, Most: most})
	if a.Err != api.OK || a.End != frames+2 || len(a.Data) != (frames-1)*len(f) {
		t.Errorf("P18.2: Do of the most: error %d, end %d, %d bytes, want %d", a.Err, a.End, len(a.Data), (frames-1)*len(f))
	}
}
