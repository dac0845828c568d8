package proto_test

import (
	"math/rand/v2"
	"testing"

	"gantry/api"
	"gantry/proto"
)

// harmed answers what becomes of a form by one harm: cut anywhere, lengthened, a byte changed to any other, left out or put in.
func harmed(s string) []string {
	var out []string
	for n := range len(s) {
		out = append(out, s[:n], s[n:], s[:n]+s[n+1:], s[:n]+"\x00"+s[n:])
		if n > 40 {
			continue // behind that all is Data
		}
		for b := range 256 {
			out = append(out, s[:n]+string([]byte{byte(b)})+s[n+1:])
		}
	}
	return append(out, s+"\x00", s+"\xff", s+s)
}

func TestHarmedAsks(t *testing.T) {
	met := map[api.Errno]int{}
	for _, s := range sampleAsks() {
		if e := expectReadAsk(t, s); e != api.OK {
			t.Errorf("P17.2: %s is no form: %d", short(s), e)
		}
		for _, h := range harmed(s) {
			met[expectReadAsk(t, h)]++
		}
	}
	for _, e := range []api.Errno{api.OK, api.ErrShort, api.ErrKind, api.ErrLong, api.ErrLeft} {
		if met[e] == 0 {
			t.Errorf("P17.2: no harm has come to %d", e)
		}
	}
}

func TestHarmedReplies(t *testing.T) {
	met := map[api.Errno]int{}
	for _, s := range sampleReplies() {
		if e := expectReadReply(t, s); e != api.OK {
			t.Errorf("P17.3: %s is no form: %d", short(s), e)
		}
		for _, h := range harmed(s) {
			met[expectReadReply(t, h)]++
		}
	}
	for _, e := range []api.Errno{api.OK, api.ErrShort, api.ErrKind, api.ErrRange, api.ErrReply, api.ErrLong, api.ErrLeft} {
		if met[e] == 0 {
			t.Errorf("P17.3: no harm has come to %d", e)
		}
	}
}

func pick[T any](dice *rand.Rand, of []T) T { return of[dice.IntN(len(of))] }

// someBytes answers up to most bytes; half of them are 0, so that lengths are small now and then.
func someBytes(dice *rand.Rand, most int) string {
	b := make([]byte, dice.IntN(most+1))
	for i := range b {
		b[i] = byte(dice.IntN(256) * dice.IntN(2))
	}
	return string(b)
}

func someNumber(dice *rand.Rand) int64 {
	if dice.IntN(2) == 0 {
		return pick(dice, numbers())
	}
	return int64(dice.Uint64()) >> dice.IntN(64)
}

func someAsk(dice *rand.Rand) api.Request {
	kinds := append(append(goodKinds(), goodKinds()...), pick(dice, wrongKinds()), 0)
	return api.Request{Kind: pick(dice, kinds), Data: someBytes(dice, 300), Offset: someNumber(dice), Time: someNumber(dice), Most: int(someNumber(dice))}
}

func someReply(dice *rand.Rand) api.Reply {
	kinds := append(append(goodKinds(), goodKinds()...), pick(dice, wrongKinds()), 0)
	errs := []api.Errno{api.OK, api.OK, api.OK, pick(dice, goodErrors()), pick(dice, wrongErrors())}
	return api.Reply{Kind: pick(dice, kinds), Err: pick(dice, errs), Double: dice.IntN(2) == 0, Offset: someNumber(dice), End: someNumber(dice), Data: someBytes(dice, 300)}
}

// TestRows: what is asked and replied in long rows, each held against the chapter and against the one ahead of it.
func TestRows(t *testing.T) {
	dice := rand.New(rand.NewPCG(17, 1))
	var lastAsk api.Request
	var lastReply api.Reply
	for range 20000 {
		q, r := someAsk(dice), someReply(dice)
		expectAsk(t, q)
		expectReply(t, r)
		if s, e := chapterAsk(q); proto.SameAsk(q, q) != (e == api.OK) {
			t.Errorf("P17.4: SameAsk of %s and itself", toldAsk(q))
		} else if u, f := chapterAsk(lastAsk); proto.SameAsk(q, lastAsk) != (e == api.OK && f == api.OK && s == u) {
			t.Errorf("P17.4: SameAsk(%s, %s)", toldAsk(q), toldAsk(lastAsk))
		}
		if s, e := chapterReply(r); proto.SameReply(r, r) != (e == api.OK) {
			t.Errorf("P17.4: SameReply of %s and itself", toldReply(r))
		} else if u, f := chapterReply(lastReply); proto.SameReply(r, lastReply) != (e == api.OK && f == api.OK && s == u) {
			t.Errorf("P17.4: SameReply(%s, %s)", toldReply(r), toldReply(lastReply))
		}
		lastAsk, lastReply = q, r
	}
}

// TestAnyBytes: bytes that nobody wrote, most of them with a kind in front.
func TestAnyBytes(t *testing.T) {
	dice := rand.New(rand.NewPCG(17, 2))
	for range 50000 {
		kind := string([]byte{byte(dice.IntN(9))})
		s := kind + someBytes(dice, 30)
		expectReadAsk(t, s)
		expectReadReply(t, s)
		expectReadReply(t, kind+"\x00\x00\x00\x00"+someBytes(dice, 30))
		expectReadAsk(t, someBytes(dice, 30))
		expectReadReply(t, someBytes(dice, 30))
	}
}
