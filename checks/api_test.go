package checks

import (
	"errors"
	"testing"

	"gantry/api"
)

// TestErrnos holds the errors' numbers against those that the document's section 'Words' names.
func TestErrnos(t *testing.T) {
	for e, want := range map[api.Errno]int{
		api.OK: 0, api.ErrRange: 1, api.ErrFull: 2, api.ErrName: 3, api.ErrNone: 4, api.ErrMost: 5, api.ErrKind: 6,
		api.ErrShort: 20, api.ErrLong: 21, api.ErrLeft: 22, api.ErrVarint: 23, api.ErrSum: 24, api.ErrPacked: 25,
		api.ErrRecord: 26, api.ErrDelta: 27, api.ErrBatch: 28, api.ErrEntries: 29, api.ErrOrder: 30, api.ErrFate: 31,
		api.ErrOffset: 60, api.ErrCorrupt: 61, api.ErrDouble: 62, api.ErrGap: 63, api.ErrStale: 64, api.ErrOver: 65, api.ErrBig: 66,
		api.ErrRequest: 90, api.ErrReply: 91, api.ErrClosed: 92,
	} {
		if int(e) != want {
			t.Errorf("an error's number is %d, not %d", int(e), want)
		}
	}
	var e error = api.ErrVarint
	if !errors.Is(e, api.ErrVarint) || e.Error() == api.ErrShort.Error() {
		t.Error("an Errno is no error of its own")
	}
}

func TestKinds(t *testing.T) {
	asks := []api.Ask{api.AskProduce, api.AskFetch, api.AskTime, api.AskFlush, api.AskTrim, api.AskBounds}
	for i, k := range asks {
		if int(k) != i+1 {
			t.Errorf("the request's kind %d is %d", i+1, k)
		}
	}
	steps := []api.StepKind{api.StepAsk, api.StepCrash, api.StepOpen}
	for i, k := range steps {
		if int(k) != i+1 {
			t.Errorf("the step's kind %d is %d", i+1, k)
		}
	}
}

func TestLimits(t *testing.T) {
	for _, x := range []struct {
		name      string
		got, want int64
	}{
		{"MostFile", api.MostFile, 1073741824},
		{"MostFiles", api.MostFiles, 65536},
		{"MostName", api.MostName, 255},
		{"MostFrame", api.MostFrame, 16777216},
		{"MostPlain", api.MostPlain, 16777216},
		{"MostRecords", api.MostRecords, 65536},
		{"MostHeaders", api.MostHeaders, 1024},
		{"MostSegment", api.MostSegment, 1073741824},
		{"HeadSize", api.HeadSize, 51},
		{"LeastFrame", api.LeastFrame, 58},
		{"Window", api.Window, 8192},
		{"LeastMatch", api.LeastMatch, 4},
		{"MostMatch", api.MostMatch, 131},
		{"MostOffset", api.MostOffset, 4611686018427387904},
	} {
		if x.got != x.want {
			t.Errorf("%s is %d, not %d", x.name, x.got, x.want)
		}
	}
}
