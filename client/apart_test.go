package client_test

import (
	"testing"

	"gantry/api"
	"gantry/client"
	"gantry/record"
)

// crowded answers a list with room behind it, and all of that list.
func crowded() (list, all []api.Record) {
	all = []api.Record{
		{Time: 1, Key: api.Opt{Has: true, Data: "k"}, Headers: []api.Header{{Key: "a"}, {Key: "b"}, {Key: "room"}}[:2]},
		{Time: 2, Value: api.Opt{Data: "passed over"}},
		{Time: 3, Key: api.Opt{Has: true, Data: "room"}},
	}
	return all[:2], all
}

// TestSendLeaves: Send leaves what it is handed as it is, its spare room too.
func TestSendLeaves(t *testing.T) {
	for _, packed := range []bool{false, true} {
		list, all := crowded()
		_, want := crowded()
		p := client.NewProducer(always(form(t, api.Reply{Kind: api.AskProduce}), 1), 1, 0, 0)
		if _, e := p.Send(list, packed); e != api.OK {
			t.Fatalf("P20.3: %d", e)
		}
		for i := range all {
			if !record.Same(all[i], want[i]) || all[i].Value.Data != want[i].Value.Data {
				t.Errorf("R3: the record %d is %v", i, all[i])
			}
		}
		if room := all[0].Headers[:3]; room[2].Key != "room" {
			t.Errorf("R3: behind the headers stands %v", room[2])
		}
	}
}

// TestSendsOnce: the bytes are made once, whatever becomes of the list while it is asked.
func TestSendsOnce(t *testing.T) {
	list, _ := crowded()
	var asked []string
	a := asker(func(q string) string {
		asked = append(asked, q)
		list[0].Time++
		list[0].Headers[0].Key = "changed"
		if len(asked) < 3 {
			return ""
		}
		return form(t, api.Reply{Kind: api.AskProduce})
	})
	p := client.NewProducer(a, 1, 0, 5)
	if _, e := p.Send(list, false); e != api.OK || p.Seq() != 2 || len(asked) != 3 || asked[0] != asked[1] || asked[1] != asked[2] {
		t.Errorf("P20.3: %d, next %d, asked %x", e, p.Seq(), asked)
	}
}

// TestRowsApart: no two lists of an answer share memory, and none shares it with the consumer or with another answer.
func TestRowsApart(t *testing.T) {
	list, _ := crowded()
	list[1].Headers = []api.Header{{Key: "c"}}
	f := encoded(t, api.Batch{Base: 4, Producer: -1, Seq: -1, Records: list})
	g := encoded(t, api.Batch{Base: 6, Producer: -1, Seq: -1, Records: list})
	get := func() ([]client.Row, *client.Consumer) {
		c := client.NewConsumer(&told{replies: []string{fetched(t, f+g), fetched(t, "")}}, 5, 0)
		rows, e := c.All(1)
		if e != api.OK || len(rows) != 3 {
			t.Fatalf("P20.4: %s, %d", toldRows(rows), e)
		}
		return rows, c
	}
	want, _ := get()
	for i := range want {
		rows, c := get()
		rows[i].Record.Headers = append(rows[i].Record.Headers, api.Header{Key: "more"})
		rows[i].Record.Headers[0].Key = "changed"
		for j := range rows {
			if j != i && !record.Same(rows[j].Record, want[j].Record) {
				t.Errorf("R3: the row %d is %v, the row %d was changed", j, rows[j], i)
			}
		}
		_ = append(rows, client.Row{Offset: 99})
		if c.At() != 8 {
			t.Errorf("R3: at %d", c.At())
		}
	}
}

// TestSideBySide: two who ask one asker go their own ways.
func TestSideBySide(t *testing.T) {
	s := opened(t, api.Config{Segment: 1000, Frame: 1000, Plain: 1000, Every: 100, Room: 1 << 20})
	p, q := client.NewProducer(s, 1, 0, 0), client.NewProducer(s, 2, 10, 0)
	for i := range int64(3) {
		if n, e := p.Send(recordsOf(1), false); n != 3*i || e != api.OK {
			t.Errorf("P20.3: %d, %d", n, e)
		}
		if n, e := q.Send(recordsOf(2, 3), true); n != 3*i+1 || e != api.OK {
			t.Errorf("P20.3: %d, %d", n, e)
		}
	}
	if p.Seq() != 3 || q.Seq() != 16 {
		t.Errorf("P20.3: next %d and %d", p.Seq(), q.Seq())
	}
	c, d := client.NewConsumer(s, 0, 0), client.NewConsumer(s, 2, 1000)
	first, _ := c.Next()
	all, _ := d.All(5)
	second, _ := c.Next()
	if toldRows(first) != "[0:1]" || toldRows(all) != "[2:3 3:1 4:2 5:3 6:1 7:2 8:3]" || toldRows(second) != "[1:2 2:3]" || c.At() != 3 || d.At() != 9 {
		t.Errorf("P20.4: %s, %s, %s", toldRows(first), toldRows(all), toldRows(second))
	}
}
