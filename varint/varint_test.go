package varint_test

import (
	"math"
	"slices"
	"strings"
	"testing"

	"gantry/api"
	"gantry/varint"
)

// The calls as the chapter lists them, at one kind each.
var (
	_ func(...uint64) string                  = varint.Put[uint64]
	_ func(...int64) string                   = varint.PutSigned[int64]
	_ func(string) (uint64, int, api.Errno)   = varint.Read[uint64]
	_ func(string) (int64, int, api.Errno)    = varint.ReadSigned[int64]
	_ func(string) ([]uint64, int, api.Errno) = varint.ReadAll
	_ func(uint64) int                        = varint.Size[uint64]
	_ func(int64) int                         = varint.SizeSigned[int64]
	_ func(int64) uint64                      = varint.Zigzag
	_ func(uint64) int64                      = varint.Unzigzag
)

// Types made from the kinds.
type (
	madeUint   uint
	madeUint8  uint8
	madeUint16 uint16
	madeUint32 uint32
	madeUint64 uint64
	madeInt    int
	madeInt8   int8
	madeInt16  int16
	madeInt32  int32
	madeInt64  int64
)

const behind = "\x00\xff\x80"

var nine = strings.Repeat("\xff", 9)

type unsignedForm struct {
	v    uint64
	form string
}

type signedForm struct {
	v    int64
	form string
}

func unsignedForms() []unsignedForm {
	return []unsignedForm{
		{0, "\x00"},
		{1, "\x01"},
		{2, "\x02"},
		{126, "\x7e"},
		{127, "\x7f"},
		{128, "\x80\x01"},
		{129, "\x81\x01"},
		{255, "\xff\x01"},
		{256, "\x80\x02"},
		{300, "\xac\x02"},
		{1<<14 - 1, "\xff\x7f"},
		{1 << 14, "\x80\x80\x01"},
		{1<<21 - 1, "\xff\xff\x7f"},
		{1 << 21, "\x80\x80\x80\x01"},
		{1<<28 - 1, "\xff\xff\xff\x7f"},
		{1 << 28, "\x80\x80\x80\x80\x01"},
		{1<<32 - 1, "\xff\xff\xff\xff\x0f"},
		{1<<35 - 1, "\xff\xff\xff\xff\x7f"},
		{1 << 35, "\x80\x80\x80\x80\x80\x01"},
		{1<<42 - 1, "\xff\xff\xff\xff\xff\x7f"},
		{1 << 42, "\x80\x80\x80\x80\x80\x80\x01"},
		{1<<49 - 1, "\xff\xff\xff\xff\xff\xff\x7f"},
		{1 << 49, "\x80\x80\x80\x80\x80\x80\x80\x01"},
		{1<<56 - 1, "\xff\xff\xff\xff\xff\xff\xff\x7f"},
		{1 << 56, "\x80\x80\x80\x80\x80\x80\x80\x80\x01"},
		{1<<63 - 1, "\xff\xff\xff\xff\xff\xff\xff\xff\x7f"},
		{1 << 63, "\x80\x80\x80\x80\x80\x80\x80\x80\x80\x01"},
		{1<<64 - 2, "\xfe\xff\xff\xff\xff\xff\xff\xff\xff\x01"},
		{1<<64 - 1, nine + "\x01"},
	}
}

func signedForms() []signedForm {
	return []signedForm{
		{0, "\x00"},
		{-1, "\x01"},
		{1, "\x02"},
		{-2, "\x03"},
		{2, "\x04"},
		{63, "\x7e"},
		{-64, "\x7f"},
		{64, "\x80\x01"},
		{-65, "\x81\x01"},
		{127, "\xfe\x01"},
		{-128, "\xff\x01"},
		{128, "\x80\x02"},
		{math.MaxInt32, "\xfe\xff\xff\xff\x0f"},
		{math.MinInt32, "\xff\xff\xff\xff\x0f"},
		{1<<62 - 1, "\xfe\xff\xff\xff\xff\xff\xff\xff\x7f"},
		{-1 << 62, "\xff\xff\xff\xff\xff\xff\xff\xff\x7f"},
		{1 << 62, "\x80\x80\x80\x80\x80\x80\x80\x80\x80\x01"},
		{math.MaxInt64 - 1, "\xfc" + nine[1:] + "\x01"},
		{math.MinInt64 + 1, "\xfd" + nine[1:] + "\x01"},
		{math.MaxInt64, "\xfe" + nine[1:] + "\x01"},
		{math.MinInt64, nine + "\x01"},
	}
}

// slowForm makes the form by the chapter's words, with division alone.
func slowForm(v uint64) string {
	form := []byte{byte(v % 128)}
	for v /= 128; v > 0; v /= 128 {
		form[len(form)-1] += 128
		form = append(form, byte(v%128))
	}
	return string(form)
}

// spread answers numbers of all widths: around each power of two, and some in between.
func spread() []uint64 {
	var out []uint64
	for i := range 64 {
		p := uint64(1) << i
		out = append(out, p-1, p, p+1, p|p>>3, ^p, -p)
	}
	x := uint64(1)
	for range 1000 {
		x = x*6364136223846793005 + 1442695040888963407
		out = append(out, x, x>>(x>>58))
	}
	return out
}

func TestZigzag(t *testing.T) { // P1.1
	for i, v := range []int64{0, -1, 1, -2, 2, -3, 3} {
		if got := varint.Zigzag(v); got != uint64(i) {
			t.Errorf("Zigzag(%d) = %d, not %d", v, got, i)
		}
		if got := varint.Unzigzag(uint64(i)); got != v {
			t.Errorf("Unzigzag(%d) = %d, not %d", i, got, v)
		}
	}
	for v, u := range map[int64]uint64{math.MaxInt64: 1<<64 - 2, math.MinInt64: 1<<64 - 1, math.MaxInt64 - 1: 1<<64 - 4, math.MinInt64 + 1: 1<<64 - 3, 1 << 62: 1 << 63, -1 << 62: 1<<63 - 1} {
		if got := varint.Zigzag(v); got != u {
			t.Errorf("Zigzag(%d) = %d, not %d", v, got, u)
		}
		if got := varint.Unzigzag(u); got != v {
			t.Errorf("Unzigzag(%d) = %d, not %d", u, got, v)
		}
	}
	for _, u := range spread() {
		if got := varint.Zigzag(varint.Unzigzag(u)); got != u {
			t.Errorf("Zigzag(Unzigzag(%d)) = %d", u, got)
		}
		if got := varint.Unzigzag(varint.Zigzag(int64(u))); got != int64(u) {
			t.Errorf("Unzigzag(Zigzag(%d)) = %d", int64(u), got)
		}
	}
}

func TestSize(t *testing.T) { // P1.2
	for _, x := range unsignedForms() {
		if got := varint.Size(x.v); got != len(x.form) {
			t.Errorf("Size(%d) = %d, not %d", x.v, got, len(x.form))
		}
	}
	for _, x := range signedForms() {
		if got := varint.SizeSigned(x.v); got != len(x.form) {
			t.Errorf("SizeSigned(%d) = %d, not %d", x.v, got, len(x.form))
		}
	}
	for _, v := range spread() {
		if got, want := varint.Size(v), len(slowForm(v)); got != want {
			t.Errorf("Size(%d) = %d, not %d", v, got, want)
		}
		if got, want := varint.SizeSigned(int64(v)), len(slowForm(varint.Zigzag(int64(v)))); got != want {
			t.Errorf("SizeSigned(%d) = %d, not %d", int64(v), got, want)
		}
	}
}

func TestPut(t *testing.T) { // P1.3
	var all []uint64
	var joined string
	for _, x := range unsignedForms() {
		if got := varint.Put(x.v); got != x.form {
			t.Errorf("Put(%d) = %x, not %x", x.v, got, x.form)
		}
		all, joined = append(all, x.v), joined+x.form
	}
	if got := varint.Put(all...); got != joined {
		t.Errorf("Put of all = %x, not %x", got, joined)
	}
	for _, v := range spread() {
		if got, want := varint.Put(v), slowForm(v); got != want {
			t.Errorf("Put(%d) = %x, not %x", v, got, want)
		}
	}
}

func TestPutSigned(t *testing.T) { // P1.3
	var all []int64
	var joined string
	for _, x := range signedForms() {
		if got := varint.PutSigned(x.v); got != x.form {
			t.Errorf("PutSigned(%d) = %x, not %x", x.v, got, x.form)
		}
		all, joined = append(all, x.v), joined+x.form
	}
	if got := varint.PutSigned(all...); got != joined {
		t.Errorf("PutSigned of all = %x, not %x", got, joined)
	}
}

func TestPutOfNoValues(t *testing.T) { // P1.3
	if got := varint.Put[uint64]() + varint.Put([]uint8{}...) + varint.Put([]madeUint(nil)...); got != "" {
		t.Errorf("Put of no values = %x", got)
	}
	if got := varint.PutSigned[int64]() + varint.PutSigned([]int8{}...) + varint.PutSigned([]madeInt(nil)...); got != "" {
		t.Errorf("PutSigned of no values = %x", got)
	}
}

func TestRead(t *testing.T) { // P1.4
	for _, x := range unsignedForms() {
		for _, rest := range []string{"", "\x00", "\x07", behind} {
			if v, n, e := varint.Read[uint64](x.form + rest); v != x.v || n != len(x.form) || e != api.OK {
				t.Errorf("Read(%x) = %d, %d, %d", x.form+rest, v, n, e)
			}
		}
	}
	for _, x := range signedForms() {
		for _, rest := range []string{"", "\x00", "\x07", behind} {
			if v, n, e := varint.ReadSigned[int64](x.form + rest); v != x.v || n != len(x.form) || e != api.OK {
				t.Errorf("ReadSigned(%x) = %d, %d, %d", x.form+rest, v, n, e)
			}
		}
	}
}

type refusal struct {
	s string
	e api.Errno
}

func refusals() []refusal {
	out := []refusal{
		{"", api.ErrShort},
		{"\x80", api.ErrShort},
		{"\xff", api.ErrShort},
		{"\x80\x80", api.ErrShort},
		{nine, api.ErrShort},
		{strings.Repeat("\x80", 9), api.ErrShort},
		{"\x80\x00", api.ErrVarint},
		{"\xff\x00", api.ErrVarint},
		{"\xff\x00\x01", api.ErrVarint},
		{"\x80\x80\x00", api.ErrVarint},
		{"\xff\x80\x00\x80", api.ErrVarint},
		{nine[1:] + "\x00", api.ErrVarint},
		{nine + "\x00", api.ErrVarint},
		{nine + "\xff\x01", api.ErrVarint},
		{strings.Repeat("\x80", 10) + "\x01", api.ErrVarint},
		{strings.Repeat("\xff", 1000), api.ErrVarint},
	}
	for b := 2; b < 256; b++ {
		out = append(out, refusal{nine + string([]byte{byte(b)}), api.ErrVarint})
	}
	return out
}

func TestReadRefuses(t *testing.T) { // P1.4
	for _, x := range refusals() {
		refuses[uint8](t, x.s, x.e)
		refuses[uint16](t, x.s, x.e)
		refuses[uint32](t, x.s, x.e)
		refuses[uint64](t, x.s, x.e)
		refuses[uint](t, x.s, x.e)
		refuses[madeUint32](t, x.s, x.e)
		refusesSigned[int8](t, x.s, x.e)
		refusesSigned[int16](t, x.s, x.e)
		refusesSigned[int32](t, x.s, x.e)
		refusesSigned[int64](t, x.s, x.e)
		refusesSigned[int](t, x.s, x.e)
		refusesSigned[madeInt32](t, x.s, x.e)
	}
}

func refuses[T varint.Unsigned](t *testing.T, s string, e api.Errno) {
	t.Helper()
	if v, n, got := varint.Read[T](s); v != 0 || n != 0 || got != e {
		t.Errorf("Read[%T](%x) = %d, %d, %d; not 0, 0, %d", v, s, v, n, got, e)
	}
}

func refusesSigned[T varint.Signed](t *testing.T, s string, e api.Errno) {
	t.Helper()
	if v, n, got := varint.ReadSigned[T](s); v != 0 || n != 0 || got != e {
		t.Errorf("ReadSigned[%T](%x) = %d, %d, %d; not 0, 0, %d", v, s, v, n, got, e)
	}
}

func TestUnsignedKinds(t *testing.T) { // P1.2, P1.3, P1.4
	unsignedKind[uint8](t, math.MaxUint8)
	unsignedKind[uint16](t, math.MaxUint16)
	unsignedKind[uint32](t, math.MaxUint32)
	unsignedKind[uint64](t, math.MaxUint64)
	unsignedKind[uint](t, math.MaxUint)
	unsignedKind[madeUint8](t, math.MaxUint8)
	unsignedKind[madeUint16](t, math.MaxUint16)
	unsignedKind[madeUint32](t, math.MaxUint32)
	unsignedKind[madeUint64](t, math.MaxUint64)
	unsignedKind[madeUint](t, math.MaxUint)
}

// unsignedKind looks at the numbers of a kind up to its greatest, and at those that are none of its.
func unsignedKind[T varint.Unsigned](t *testing.T, greatest uint64) {
	numbers := append(spread(), 0, 1, 127, 128, greatest-1, greatest, greatest+1, greatest+2, greatest*2, math.MaxUint64)
	for _, u := range numbers {
		form := slowForm(u)
		if u > greatest {
			refuses[T](t, form+behind, api.ErrRange)
			continue
		}
		if got := varint.Put(T(u), T(u)); got != form+form {
			t.Errorf("Put[%T](%d, %d) = %x, not %x", T(u), u, u, got, form+form)
		}
		if got := varint.Size(T(u)); got != len(form) {
			t.Errorf("Size[%T](%d) = %d, not %d", T(u), u, got, len(form))
		}
		if v, n, e := varint.Read[T](form + behind); uint64(v) != u || n != len(form) || e != api.OK {
			t.Errorf("Read[%T](%x) = %d, %d, %d", v, form+behind, v, n, e)
		}
	}
}

func TestSignedKinds(t *testing.T) { // P1.2, P1.3, P1.4
	signedKind[int8](t, math.MinInt8, math.MaxInt8)
	signedKind[int16](t, math.MinInt16, math.MaxInt16)
	signedKind[int32](t, math.MinInt32, math.MaxInt32)
	signedKind[int64](t, math.MinInt64, math.MaxInt64)
	signedKind[int](t, math.MinInt, math.MaxInt)
	signedKind[madeInt8](t, math.MinInt8, math.MaxInt8)
	signedKind[madeInt16](t, math.MinInt16, math.MaxInt16)
	signedKind[madeInt32](t, math.MinInt32, math.MaxInt32)
	signedKind[madeInt64](t, math.MinInt64, math.MaxInt64)
	signedKind[madeInt](t, math.MinInt, math.MaxInt)
}

// signedKind looks at the numbers of a kind from its least to its greatest, and at those that are none of its.
func signedKind[T varint.Signed](t *testing.T, least, greatest int64) {
	numbers := []int64{0, -1, 1, -64, 63, 64, -65, least - 1, least, least + 1, greatest - 1, greatest, greatest + 1, math.MinInt64, math.MaxInt64}
	for _, u := range spread() {
		numbers = append(numbers, int64(u))
	}
	for _, v := range numbers {
		form := slowForm(slowZigzag(v))
		if v < least || v > greatest {
			refusesSigned[T](t, form+behind, api.ErrRange)
			continue
		}
		if got := varint.PutSigned(T(v), T(v)); got != form+form {
			t.Errorf("PutSigned[%T](%d, %d) = %x, not %x", T(v), v, v, got, form+form)
		}
		if got := varint.SizeSigned(T(v)); got != len(form) {
			t.Errorf("SizeSigned[%T](%d) = %d, not %d", T(v), v, got, len(form))
		}
		if got, n, e := varint.ReadSigned[T](form + behind); int64(got) != v || n != len(form) || e != api.OK {
			t.Errorf("ReadSigned[%T](%x) = %d, %d, %d", got, form+behind, got, n, e)
		}
	}
}

// slowZigzag makes the zigzag by the chapter's words; -v - 1 is within int64 for every v below 0.
func slowZigzag(v int64) uint64 {
	if v < 0 {
		return uint64(-(v+1))*2 + 1
	}
	return uint64(v) * 2
}

func TestReadAll(t *testing.T) { // P1.5
	var all []uint64
	var joined string
	for _, x := range unsignedForms() {
		all, joined = append(all, x.v), joined+x.form
		if got, n, e := varint.ReadAll(joined); !slices.Equal(got, all) || n != len(joined) || e != api.OK {
			t.Errorf("ReadAll(%x) = %v, %d, %d", joined, got, n, e)
		}
	}
	if got, n, e := varint.ReadAll(""); len(got) != 0 || n != 0 || e != api.OK {
		t.Errorf("ReadAll of no bytes = %v, %d, %d", got, n, e)
	}
}

func TestReadAllRefuses(t *testing.T) { // P1.5
	for _, ahead := range []string{"", "\x00", "\x01", "\xac\x02", "\x00\x80\x01" + nine + "\x01"} {
		for _, x := range refusals() {
			if x.s == "" { // no byte behind the last number is the end, and no fault
				continue
			}
			if got, n, e := varint.ReadAll(ahead + x.s); len(got) != 0 || n != len(ahead) || e != x.e {
				t.Errorf("ReadAll(%x) = %v, %d, %d; not none, %d, %d", ahead+x.s, got, n, e, len(ahead), x.e)
			}
		}
	}
}

func TestReadAllIsNewMemory(t *testing.T) { // R3
	s := "\x01\xac\x02\x00"
	first, _, _ := varint.ReadAll(s)
	second, _, _ := varint.ReadAll(s)
	clear(first[:cap(first)])
	if !slices.Equal(second, []uint64{1, 300, 0}) {
		t.Errorf("the second answer is %v once the first was changed", second)
	}
}

func TestPutLeavesItsValues(t *testing.T) { // R3
	values := []uint64{1, 300, 1 << 63, 7, 8}
	signed := []int64{-1, 300, math.MinInt64, 7, 8}
	varint.Put(values[:3]...)
	varint.PutSigned(signed[:3]...)
	if !slices.Equal(values, []uint64{1, 300, 1 << 63, 7, 8}) || !slices.Equal(signed, []int64{-1, 300, math.MinInt64, 7, 8}) {
		t.Errorf("the values became %v and %v", values, signed)
	}
}

// TestOneForm goes through all texts of up to four of these bytes, whole and behind six and seven bytes more: what is read is, put again, the bytes that were read.
func TestOneForm(t *testing.T) { // P1.6
	texts := []string{""}
	for range 4 {
		for _, s := range texts {
			for _, b := range []string{"\x00", "\x01", "\x02", "\x7f", "\x80", "\x81", "\xfe", "\xff"} {
				texts = append(texts, s+b)
			}
		}
		slices.Sort(texts)
		texts = slices.Compact(texts)
	}
	for _, s := range texts {
		for _, ahead := range []string{"", "\x80\x80\x80\x80\x80\x80", nine[2:]} {
			putAgain(t, ahead+s)
		}
	}
}

func putAgain(t *testing.T, s string) {
	t.Helper()
	if v, n, e := varint.Read[uint64](s); e == api.OK && (varint.Put(v) != s[:n] || varint.Size(v) != n) {
		t.Errorf("Read(%x) = %d, %d, but Put(%d) = %x", s, v, n, v, varint.Put(v))
	}
	if v, n, e := varint.Read[uint8](s); e == api.OK && varint.Put(v) != s[:n] {
		t.Errorf("Read[uint8](%x) = %d, %d, but Put(%d) = %x", s, v, n, v, varint.Put(v))
	}
	if v, n, e := varint.ReadSigned[int64](s); e == api.OK && (varint.PutSigned(v) != s[:n] || varint.SizeSigned(v) != n) {
		t.Errorf("ReadSigned(%x) = %d, %d, but PutSigned(%d) = %x", s, v, n, v, varint.PutSigned(v))
	}
	if all, n, e := varint.ReadAll(s); e == api.OK && (varint.Put(all...) != s || n != len(s)) {
		t.Errorf("ReadAll(%x) = %v, %d, but Put of these = %x", s, all, n, varint.Put(all...))
	}
}

func TestReadTakesBackWhatPutAnswers(t *testing.T) { // P1.6
	for _, v := range spread() {
		for _, rest := range []string{"", "\x00", "\xff", behind} {
			if got, n, e := varint.Read[uint64](varint.Put(v) + rest); got != v || n != varint.Size(v) || e != api.OK {
				t.Errorf("Read(Put(%d) and %x) = %d, %d, %d", v, rest, got, n, e)
			}
			i := int64(v)
			if got, n, e := varint.ReadSigned[int64](varint.PutSigned(i) + rest); got != i || n != varint.SizeSigned(i) || e != api.OK {
				t.Errorf("ReadSigned(PutSigned(%d) and %x) = %d, %d, %d", i, rest, got, n, e)
			}
		}
	}
}

func TestSmallKindsWhole(t *testing.T) { // P1.4, P1.6
	for u := range 1 << 18 {
		form := slowForm(uint64(u))
		if v, n, e := varint.Read[uint16](form); u <= math.MaxUint16 && (int(v) != u || n != len(form) || e != api.OK) || u > math.MaxUint16 && (v != 0 || n != 0 || e != api.ErrRange) {
			t.Fatalf("Read[uint16](%x) = %d, %d, %d", form, v, n, e)
		}
		i := varint.Unzigzag(uint64(u))
		if v, n, e := varint.ReadSigned[int16](form); u <= math.MaxUint16 && (int64(v) != i || n != len(form) || e != api.OK) || u > math.MaxUint16 && (v != 0 || n != 0 || e != api.ErrRange) {
			t.Fatalf("ReadSigned[int16](%x) = %d, %d, %d", form, v, n, e)
		}
	}
}
