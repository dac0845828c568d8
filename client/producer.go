package client

import (
	"gantry/api"
	"gantry/batch"
)

// mostRetries is how many times a producer asks again at most.
const mostRetries = 100

// none is the number, and the sequence, of one who sends batches without a producer.
const none = -1

// round is how many sequences there are: behind the last of them comes 0 again.
const round = 1 << 31

// Producer sends batches of records, each with the sequence that follows the one ahead of it. The zero one has the number 0 and nobody who answers; a nil one sends nothing.
type Producer struct {
	line
	id      int64
	seq     int32 // of the next batch
	retries int
}

// NewProducer answers a producer with that number, the sequence of its next batch, and how many times it asks again.
func NewProducer(a Asker, id int64, seq int32, retries int) *Producer {
	p := &Producer{line: line{a}, id: id, seq: max(seq, 0), retries: min(max(retries, 0), mostRetries)}
	if id < 0 {
		p.id, p.seq = none, none
	}
	return p
}

// Seq answers the sequence of the next batch.
func (p *Producer) Seq() int32 {
	if p == nil {
		return 0
	}
	return p.seq
}

// Send sends the records as one batch, and answers the first one's offset: layer 6's error, with nothing asked, if they make no frame; ErrReply, if asking fails till the retries are used up; or the reply's error. Beside an error the next batch has the same sequence.
func (p *Producer) Send(records []api.Record, packed bool) (int64, api.Errno) {
	if p == nil {
		return 0, api.ErrReply
	}
	b := api.Batch{Packed: packed, Producer: p.id, Seq: p.seq, Records: records}
	frame, e := batch.Encode(b)
	if e != api.OK {
		return 0, e
	}
	r, e := p.ask(api.Request{Kind: api.AskProduce, Data: frame}, p.retries)
	if e != api.OK {
		return 0, e
	}
	p.seq = behind(b)
	return r.Offset, api.OK
}

// behind answers the sequence that follows b.
func behind(b api.Batch) int32 {
	if b.Producer == none {
		return none
	}
	return int32((int64(b.Seq) + int64(len(b.Records))) % round)
}
