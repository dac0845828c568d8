package client

import (
	"gantry/api"
	"gantry/batch"
)

// Row is a record and its offset.
type Row struct {
	Offset int64
	Record api.Record
}

// Consumer fetches records from where it stands on, and goes on behind them. The zero one stands at 0 and has nobody who answers; a nil one asks nothing.
type Consumer struct {
	line
	at   int64
	most int
}

// NewConsumer answers a consumer that stands at the offset from, and fetches at most so many bytes a time.
func NewConsumer(a Asker, from int64, most int) *Consumer {
	return &Consumer{line: line{a}, at: from, most: most}
}

// At answers where the consumer stands.
func (c *Consumer) At() int64 {
	if c == nil {
		return 0
	}
	return c.at
}

// Next answers the rows that one fetch brings, and goes on behind them: ErrReply, if asking fails or brings no frames that follow one another from At on; or the reply's error. Beside an error the consumer stays.
func (c *Consumer) Next() ([]Row, api.Errno) {
	if c == nil {
		return nil, api.ErrReply
	}
	r, e := c.ask(api.Request{Kind: api.AskFetch, Offset: c.at, Most: c.most}, 0)
	if e != api.OK {
		return nil, e
	}
	rows, next, ok := rowsOf(r.Data, c.at)
	if !ok {
		return nil, api.ErrReply
	}
	c.at = next
	return rows, api.OK
}

// All answers the rows of Next again and again, till there are no more, or it was asked so many turns; and the last one's error, beside the rows that came ahead of it.
func (c *Consumer) All(turns int) ([]Row, api.Errno) {
	var all []Row
	for range max(turns, 1) {
		rows, e := c.Next()
		all = append(all, rows...)
		if e != api.OK || len(rows) == 0 {
			return all, e
		}
	}
	return all, api.OK
}

// rowsOf answers the rows from the offset at on of frames one behind the other, and the offset behind them: false, if that isn't what they are, or the first one doesn't hold at.
func rowsOf(frames string, at int64) ([]Row, int64, bool) {
	var rows []Row
	next := at
	for isFirst := true; frames != ""; isFirst = false {
		b, n, e := batch.Decode(frames, api.MostFrame, api.MostPlain)
		if e != api.OK || !follows(b, next, isFirst) {
			return nil, 0, false
		}
		for i, r := range b.Records {
			if offset := b.Base + int64(i); offset >= at {
				rows = append(rows, Row{offset, r})
			}
		}
		next = b.Base + int64(len(b.Records))
		frames = frames[n:]
	}
	return rows, next, true
}

// follows tells whether b is the batch that next asks for: the first one may begin ahead of it.
func follows(b api.Batch, next int64, isFirst bool) bool {
	if isFirst {
		return b.Base <= next && next < b.Base+int64(len(b.Records))
	}
	return b.Base == next
}
