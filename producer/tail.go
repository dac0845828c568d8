package producer

import (
	"slices"

	"gantry/api"
)

// round is how many sequences there are: behind the last of them comes 0 again.
const round = 1 << 31

// noted is what is kept of a batch. A good head's count is an int32.
type noted struct {
	base  int64
	count int32
	seq   int32
}

func notedOf(h api.Head) noted { return noted{h.Base, int32(h.Count), h.Seq} }

// tail is a producer's last batches in the order in which they were noted: the first n of the array.
type tail struct {
	n       int
	batches [Kept]noted
}

func (t *tail) all() []noted { return t.batches[:t.n] }

// add makes x the last batch, and drops the first one if there would be too many.
func (t *tail) add(x noted) {
	if t.n == Kept {
		copy(t.batches[:], t.batches[1:])
		t.n--
	}
	t.batches[t.n] = x
	t.n++
}

// forget drops the batches whose base offset is below that. Bases needn't rise, so each is looked at.
func (t *tail) forget(below int64) {
	var left tail
	for _, x := range t.all() {
		if x.base >= below {
			left.add(x)
		}
	}
	*t = left
}

// find answers the base offset of the last batch with this sequence and count, and whether there is one.
func (t *tail) find(seq int32, count int) (int64, bool) {
	for _, x := range slices.Backward(t.all()) {
		if x.seq == seq && int(x.count) == count {
			return x.base, true
		}
	}
	return 0, false
}

// next answers the sequence behind the last batch, of which there must be one.
func (t *tail) next() int32 {
	last := t.batches[t.n-1]
	return int32((int64(last.seq) + int64(last.count)) % round)
}

func (t *tail) heads(producer int64) []api.Head {
	heads := make([]api.Head, 0, t.n)
	for _, x := range t.all() {
		heads = append(heads, api.Head{Base: x.base, Count: int(x.count), Producer: producer, Seq: x.seq})
	}
	return heads
}

// isAhead answers whether seq is in the half of the round from next on, rather than in the half that lies behind it.
func isAhead(seq, next int32) bool {
	return (int64(seq)-int64(next)+round)%round < round/2
}
