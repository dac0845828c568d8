package seek_test

import (
	"math"
	"math/rand/v2"
	"strconv"
	"strings"
	"testing"

	"gantry/api"
	"gantry/disk"
	"gantry/names"
	"gantry/power"
	"gantry/seek"
)

// TestEmpty: a log without frames has its start and end alone.
func TestEmpty(t *testing.T) {
	for _, first := range []int64{0, 5, api.MostOffset - 1} {
		c := config()
		c.First = first
		l, d := logOf(t, c)
		expect(t, "empty", l, d)
		if s, e := seek.Fetch(l, first, 99); s != "" || e != api.OK {
			t.Errorf("P16.2: Fetch(%d) of an empty log: %d bytes, %d", first, len(s), e)
		}
	}
}

// TestEmptyLastSegment: a crash may leave the last segment without frames.
func TestEmptyLastSegment(t *testing.T) {
	l, d := example(t)
	power.Crash(d, api.Fate{Name: nameOf(8, names.Log), Keep: 0})
	l = opened(t, d, config())
	if l.Segments() != 2 || l.End() != 8 {
		t.Fatalf("%d segments, the end is %d", l.Segments(), l.End())
	}
	expect(t, "an empty last segment", l, d)
	l.Trim(8)
	expect(t, "an empty last segment alone", l, d)
	add(t, l, timed(t, -8))
	expect(t, "an empty last segment, and on", l, d)
}

// TestTimesInAnyOrder: times that rise, fall, stay, and lie at the ends of all numbers, in one segment and in many, with entries for all frames and for few.
func TestTimesInAnyOrder(t *testing.T) {
	const low, high = math.MinInt64, math.MaxInt64
	for i, times := range [][][]int64{
		{{1}, {2}, {3}, {4}, {5}, {6}},
		{{6}, {5}, {4}, {3}, {2}, {1}},
		{{5}, {5}, {5}, {5}, {5}},
		{{1, 9, 3}, {2}, {9, 10}, {10}, {0, 11, 0}, {11}},
		{{low}, {low}, {low + 1}, {high - 1}, {high}, {high}},
		{{high}, {0}, {low}, {high}},
		{{low}, {-1}, {low}, {0}, {low}},
		{{-5}, {-9, -7}, {-7, -4}, {-6, -3}},
	} {
		for _, segment := range []int{1, 150, 220, 10000} {
			for _, every := range []int{1, 71, 200, 10000} {
				c := config()
				c.Segment, c.Every = segment, every
				l, d := logOf(t, c)
				for _, row := range times {
					b := api.Batch{Producer: -1, Seq: -1}
					for _, at := range row {
						b.Records = append(b.Records, api.Record{Time: at})
					}
					add(t, l, encoded(t, b))
				}
				expect(t, "times "+strconv.Itoa(i), l, d)
			}
		}
	}
}

// TestFirstRecordOfAFrame: in a frame that begins early the record that is late enough is told, not the first one.
func TestFirstRecordOfAFrame(t *testing.T) {
	b := api.Batch{Packed: true, Producer: -1, Seq: -1}
	for i := range int64(100) {
		b.Records = append(b.Records, api.Record{Time: i * 7 % 100})
	}
	l, _ := logOf(t, api.Config{Segment: 1000, Frame: 5000, Plain: 5000, Every: 100, Room: 10000}, timed(t, 0), encoded(t, b))
	for at := range int64(100) {
		want := int64(1)
		for (want-1)*7%100 < at {
			want++
		}
		if at == 0 {
			want = 0
		}
		if o, e := seek.Time(l, at); o != want || e != api.OK {
			t.Errorf("P16.3: Time(%d): %d, %d, want %d", at, o, e, want)
		}
	}
}

// TestIndexFilesHarmed: what is done to index files while the log is open or closed changes no answer.
func TestIndexFilesHarmed(t *testing.T) {
	for _, fate := range []api.Fate{
		{Keep: -1},
		{Keep: 0},
		{Keep: 7},
		{Keep: 1 << 20, Over: []api.Write{{At: 0, Data: strings.Repeat("\x00", 160)}}},
		{Keep: 1 << 20, Over: []api.Write{{At: 3, Data: strings.Repeat("\xff", 50)}}},
	} {
		l, d, _ := seven(t)
		for _, base := range l.Bases() {
			for _, kind := range []names.Kind{names.Offsets, names.Times} {
				fate.Name = nameOf(base, kind)
				power.Harm(d, fate)
			}
		}
		expect(t, "P6: while it is open", l, d)
		expect(t, "P6: while it was closed", opened(t, d, config()), d)
	}
}

func pick[T any](dice *rand.Rand, of ...T) T { return of[dice.IntN(len(of))] }

// frameOf answers a frame of a few records with times that grow, more or less, with n.
func frameOf(t *testing.T, dice *rand.Rand, n int) string {
	t.Helper()
	b := api.Batch{Packed: dice.IntN(3) == 0, Producer: -1, Seq: -1}
	for range pick(dice, 1, 1, 2, 3, 9) {
		r := api.Record{Time: int64(n)*pick[int64](dice, 1, 1, 1, 0) + dice.Int64N(20) - 10}
		if dice.IntN(2) == 0 {
			r.Value = some(strings.Repeat("v", dice.IntN(80)))
		}
		b.Records = append(b.Records, r)
	}
	return encoded(t, b)
}

// TestLogs asks logs of all kinds of configs for everything, as they grow, are trimmed, crash and are opened again.
func TestLogs(t *testing.T) {
	for seed := range uint64(30) {
		dice := rand.New(rand.NewPCG(seed, 16))
		c := api.Config{Segment: pick(dice, 1, 200, 700, 3000), Frame: 1000, Plain: 1000, Every: pick(dice, 1, 70, 200, 700, 5000), Room: 100000, First: pick[int64](dice, 0, 7, 1<<40, api.MostOffset-300)}
		d := disk.New(c.Room)
		l := opened(t, d, c)
		for step := range 50 {
			switch dice.IntN(16) {
			case 0:
				l.Trim(l.Start() + dice.Int64N(l.End()-l.Start()+1)/2)
			case 1:
				l.Flush()
			case 2:
				power.Crash(d, power.Most(d)...)
				l = opened(t, d, c)
			case 3:
				power.Crash(d)
				l = opened(t, d, c)
			default:
				add(t, l, frameOf(t, dice, step))
			}
			if step%10 == 9 {
				expect(t, "log "+strconv.Itoa(int(seed))+", step "+strconv.Itoa(step), l, d)
			}
			if t.Failed() {
				t.FailNow()
			}
		}
	}
}

// TestGreatFrames: frames of very unequal sizes, of which one is greater than all else, and than a segment.
func TestGreatFrames(t *testing.T) {
	c := api.Config{Segment: 1000, Frame: api.MostFrame, Plain: api.MostPlain, Every: 100, Room: 1 << 26}
	great := encoded(t, api.Batch{Producer: -1, Seq: -1, Records: []api.Record{{Time: 5, Value: some(strings.Repeat("v", 1<<20))}}})
	l, d := logOf(t, c, timed(t, 1), great, timed(t, 2), timed(t, 9), great, great, timed(t, 7))
	m := flatOf(t, d, c)
	m.expectFind(t, "great frames", l, d)
	m.expectFetch(t, "great frames", l, d, m.offsets()...)
	m.expectTime(t, "great frames", l, d)
	m.expectWalk(t, "great frames", l)
}
