package names_test

import (
	"fmt"
	"math/big"
	"regexp"
	"sort"
	"testing"

	"gantry/api"
	"gantry/names"
)

// What follows is the chapter word by word, in other ways than the program's: names are made by fmt, good ones told by a pattern and by numbers of any length, and segments gathered without leaning on the order of names.

func chapterEnding(kind names.Kind) string {
	return map[names.Kind]string{0: ".log", 1: ".off", 2: ".tim"}[kind]
}

func chapterName(base int64, kind names.Kind) (string, api.Errno) {
	if base < 0 || base > 4611686018427387904 {
		return "", api.ErrRange
	}
	if kind != 0 && kind != 1 && kind != 2 {
		return "", api.ErrKind
	}
	return fmt.Sprintf("%020d", base) + chapterEnding(kind), api.OK
}

var goodForm = regexp.MustCompile(`\A([0-9]{20})(\.log|\.off|\.tim)\z`)

func chapterParse(name string) (int64, names.Kind, bool) {
	parts := goodForm.FindStringSubmatch(name)
	if parts == nil {
		return 0, 0, false
	}
	base, _ := new(big.Int).SetString(parts[1], 10)
	if base.Cmp(big.NewInt(api.MostOffset)) > 0 {
		return 0, 0, false
	}
	for kind := names.Kind(0); kind < 3; kind++ {
		if chapterEnding(kind) == parts[2] {
			return base.Int64(), kind, true
		}
	}
	return 0, 0, false
}

func chapterGroup(list []string) ([]names.Segment, []string) {
	has := map[int64][3]bool{}
	var stray []string
	for _, name := range list {
		base, kind, ok := chapterParse(name)
		if !ok {
			stray = append(stray, name)
			continue
		}
		kinds := has[base]
		kinds[kind] = true
		has[base] = kinds
	}
	var segments []names.Segment
	for base, kinds := range has {
		segments = append(segments, names.Segment{Base: base, Has: kinds})
	}
	sort.Slice(segments, func(i, j int) bool { return segments[i].Base < segments[j].Base })
	sort.Strings(stray)
	return segments, stray
}

func chapterNext(base int64, segments []names.Segment) (int64, bool) {
	var above []int64
	for _, s := range segments {
		if s.Has[0] && s.Base > base {
			above = append(above, s.Base)
		}
	}
	if len(above) == 0 {
		return 0, false
	}
	sort.Slice(above, func(i, j int) bool { return above[i] < above[j] })
	return above[0], true
}

func sameName(t *testing.T, base int64, kind names.Kind) {
	t.Helper()
	got, e := names.Name(base, kind)
	want, wantE := chapterName(base, kind)
	if got != want || e != wantE {
		t.Errorf("P9.1: Name(%d, %d) is %q, %d; wanted %q, %d", base, kind, got, e, want, wantE)
	}
}

func sameParse(t *testing.T, name string) {
	t.Helper()
	base, kind, ok := names.Parse(name)
	wantBase, wantKind, wantOK := chapterParse(name)
	if base != wantBase || kind != wantKind || ok != wantOK {
		t.Errorf("P9.2: Parse(%q) is %d, %d, %t; wanted %d, %d, %t", name, base, kind, ok, wantBase, wantKind, wantOK)
	}
}
