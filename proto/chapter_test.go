package proto_test

import (
	"encoding/binary"
	"fmt"
	"reflect"
	"testing"

	"gantry/api"
	"gantry/proto"
)

// What follows is the chapter word by word, in another way than the program's: its tables are lists of the fields' names, and a field is written and read by what kind of thing it is.

func askTable() map[api.Ask][]string {
	return map[api.Ask][]string{1: {"Data"}, 2: {"Offset", "Most"}, 3: {"Time"}, 4: {}, 5: {"Offset"}, 6: {}}
}

func replyTable() map[api.Ask][]string {
	return map[api.Ask][]string{1: {"Double", "Offset"}, 2: {"End", "Data"}, 3: {"Offset"}, 4: {"End"}, 5: {"Offset"}, 6: {"Offset", "End"}}
}

const (
	mostAsked   = 16777216
	mostReplied = 1073741824
)

// laid lays the named fields of a struct behind what is written.
func laid(out []byte, from any, names []string) string {
	for _, name := range names {
		switch f := reflect.ValueOf(from).FieldByName(name); f.Kind() {
		case reflect.Bool:
			out = append(out, map[bool]byte{false: 0, true: 1}[f.Bool()])
		case reflect.String:
			out = binary.BigEndian.AppendUint32(out, uint32(f.Len()))
			out = append(out, f.String()...)
		default:
			out = binary.BigEndian.AppendUint64(out, uint64(f.Int()))
		}
	}
	return string(out)
}

// taken reads the named fields into a struct, a Data of at most most bytes; behind them nothing may be left.
func taken(into reflect.Value, names []string, s string, most int) api.Errno {
	for _, name := range names {
		f := into.FieldByName(name)
		size := map[reflect.Kind]int{reflect.Bool: 1, reflect.String: 4}[f.Kind()]
		if size == 0 {
			size = 8
		}
		if len(s) < size {
			return api.ErrShort
		}
		var v uint64
		for _, b := range []byte(s[:size]) {
			v = v*256 + uint64(b)
		}
		s = s[size:]
		switch f.Kind() {
		case reflect.Bool:
			if v > 1 {
				return api.ErrReply
			}
			f.SetBool(v == 1)
		case reflect.String:
			if v > uint64(most) || v > uint64(len(s)) {
				return api.ErrLong
			}
			f.SetString(s[:v])
			s = s[v:]
		default:
			f.SetInt(int64(v))
		}
	}
	if s != "" {
		return api.ErrLeft
	}
	return api.OK
}

func chapterAsk(r api.Request) (string, api.Errno) {
	names, ok := askTable()[r.Kind]
	if !ok {
		return "", api.ErrKind
	}
	if r.Kind == api.AskProduce && len(r.Data) > mostAsked {
		return "", api.ErrLong
	}
	return laid([]byte{byte(r.Kind)}, r, names), api.OK
}

func chapterReadAsk(s string) (api.Request, api.Errno) {
	if s == "" {
		return api.Request{}, api.ErrShort
	}
	r := api.Request{Kind: api.Ask(s[0])}
	names, ok := askTable()[r.Kind]
	if !ok {
		return api.Request{}, api.ErrKind
	}
	if e := taken(reflect.ValueOf(&r).Elem(), names, s[1:], mostAsked); e != api.OK {
		return api.Request{}, e
	}
	return r, api.OK
}

func chapterReply(r api.Reply) (string, api.Errno) {
	names, ok := replyTable()[r.Kind]
	switch {
	case !ok && r.Kind != 0:
		return "", api.ErrKind
	case r.Kind == 0 && r.Err == 0:
		return "", api.ErrKind
	case r.Err < 0 || r.Err > 2147483647:
		return "", api.ErrRange
	case r.Kind == api.AskFetch && r.Err == 0 && len(r.Data) > mostReplied:
		return "", api.ErrLong
	}
	if r.Err != 0 {
		names = nil
	}
	return laid(binary.BigEndian.AppendUint32([]byte{byte(r.Kind)}, uint32(r.Err)), r, names), api.OK
}

func chapterReadReply(s string) (api.Reply, api.Errno) {
	if s == "" {
		return api.Reply{}, api.ErrShort
	}
	r := api.Reply{Kind: api.Ask(s[0])}
	names, ok := replyTable()[r.Kind]
	if !ok && r.Kind != 0 {
		return api.Reply{}, api.ErrKind
	}
	if len(s) < 5 {
		return api.Reply{}, api.ErrShort
	}
	r.Err = api.Errno(int32(binary.BigEndian.Uint32([]byte(s[1:5]))))
	if r.Err < 0 {
		return api.Reply{}, api.ErrRange
	}
	if r.Kind == 0 && r.Err == 0 {
		return api.Reply{}, api.ErrKind
	}
	if r.Err != 0 {
		names = nil
	}
	if e := taken(reflect.ValueOf(&r).Elem(), names, s[5:], mostReplied); e != api.OK {
		return api.Reply{}, e
	}
	return r, api.OK
}

// short tells a text by its first bytes.
func short(s string) string {
	if len(s) > 40 {
		return fmt.Sprintf("%x.. (%d bytes)", s[:40], len(s))
	}
	return fmt.Sprintf("%x", s)
}

func toldAsk(r api.Request) string {
	return fmt.Sprintf("{Kind %d, Data %s, Offset %d, Time %d, Most %d}", r.Kind, short(r.Data), r.Offset, r.Time, r.Most)
}

func toldReply(r api.Reply) string {
	return fmt.Sprintf("{Kind %d, Err %d, Double %t, Offset %d, End %d, Data %s}", r.Kind, r.Err, r.Double, r.Offset, r.End, short(r.Data))
}

// expectAsk holds what is made of a request against the chapter, and what is read of that.
func expectAsk(t *testing.T, r api.Request) {
	t.Helper()
	s, e := proto.Ask(r)
	want, wantE := chapterAsk(r)
	if s != want || e != wantE {
		t.Errorf("P17.1: Ask(%s): %s, %d, want %s, %d", toldAsk(r), short(s), e, short(want), wantE)
	}
	if wantE == api.OK {
		expectReadAsk(t, want)
	}
}

// expectReadAsk holds what is read of a text against the chapter, and what is written of that. It answers the error that the chapter asks for.
func expectReadAsk(t *testing.T, s string) api.Errno {
	t.Helper()
	r, e := proto.ReadAsk(s)
	want, wantE := chapterReadAsk(s)
	if r != want || e != wantE {
		t.Errorf("P17.2: ReadAsk(%s): %s, %d, want %s, %d", short(s), toldAsk(r), e, toldAsk(want), wantE)
	}
	if wantE == api.OK {
		if again, e := proto.Ask(want); again != s || e != api.OK {
			t.Errorf("P17.4: %s is written again as %s, %d", short(s), short(again), e)
		}
	}
	return wantE
}

// expectReply is expectAsk for replies.
func expectReply(t *testing.T, r api.Reply) {
	t.Helper()
	s, e := proto.Reply(r)
	want, wantE := chapterReply(r)
	if s != want || e != wantE {
		t.Errorf("P17.1: Reply(%s): %s, %d, want %s, %d", toldReply(r), short(s), e, short(want), wantE)
	}
	if wantE == api.OK {
		expectReadReply(t, want)
	}
}

// expectReadReply is expectReadAsk for replies.
func expectReadReply(t *testing.T, s string) api.Errno {
	t.Helper()
	r, e := proto.ReadReply(s)
	want, wantE := chapterReadReply(s)
	if r != want || e != wantE {
		t.Errorf("P17.3: ReadReply(%s): %s, %d, want %s, %d", short(s), toldReply(r), e, toldReply(want), wantE)
	}
	if wantE == api.OK {
		if again, e := proto.Reply(want); again != s || e != api.OK {
			t.Errorf("P17.4: %s is written again as %s, %d", short(s), short(again), e)
		}
	}
	return wantE
}
