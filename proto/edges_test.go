package proto_test

import (
	"math"
	"strings"

	"gantry/api"
)

const nought = "\x00\x00\x00\x00\x00\x00\x00"

func goodKinds() []api.Ask { return []api.Ask{1, 2, 3, 4, 5, 6} }

// wrongKinds answers kinds that no table has, those among them whose last byte is a good kind's.
func wrongKinds() []api.Ask {
	return []api.Ask{-1, -2, -6, 7, 8, 127, 128, 255, 256, 257, 258, 262, 65537, 1<<32 + 1, 1<<32 + 6, -255, -254, math.MinInt, math.MinInt + 1, math.MaxInt, math.MaxInt - 1}
}

func numbers() []int64 {
	return []int64{0, 1, 2, -1, -2, 127, 128, 255, 256, 65535, 65536, math.MaxInt32, math.MaxInt32 + 1, math.MinInt32, 1<<32 - 1, 1 << 32, 0x0102030405060708, api.MostOffset, api.MostOffset + 1, math.MaxInt64, math.MaxInt64 - 1, math.MinInt64, math.MinInt64 + 1}
}

func texts() []string {
	return []string{"", "a", "ab", "\x00", "\x01\x00\x00\x00\x00", "\xff\xfe\x80", strings.Repeat("b", 255), strings.Repeat("c", 256), strings.Repeat("d", 65535), strings.Repeat("e", 65536), strings.Repeat("f", 70000)}
}

func goodErrors() []api.Errno {
	return []api.Errno{api.OK, api.ErrRange, api.ErrFull, api.ErrShort, api.ErrOffset, api.ErrBig, api.ErrRequest, api.ErrReply, api.ErrClosed, 93, 127, 128, 255, 256, 65535, 65536, 1 << 24, math.MaxInt32 - 1, math.MaxInt32}
}

// wrongErrors answers errors that no form has, those among them whose last four bytes are a good one's.
func wrongErrors() []api.Errno {
	return []api.Errno{-1, -2, -90, math.MinInt32, math.MinInt32 - 1, math.MaxInt32 + 1, math.MaxInt32 + 2, 1<<32 - 1, 1 << 32, 1<<32 + 1, -1 << 32, 1<<32 - 1<<63, math.MinInt, math.MinInt + 1, math.MaxInt, math.MaxInt - 1}
}

// fullAsk answers a request that has something else in each field.
func fullAsk(kind api.Ask, v int64, data string) api.Request {
	return api.Request{Kind: kind, Data: data, Offset: v, Time: v ^ 0x55, Most: int(v ^ 0x3300)}
}

// fullReply answers a reply that has something else in each field.
func fullReply(kind api.Ask, e api.Errno, double bool, v int64, data string) api.Reply {
	return api.Reply{Kind: kind, Err: e, Double: double, Offset: v, End: v ^ 0x5500, Data: data}
}

// sampleAsks answers a form of each kind, and a few more of those with a Data.
func sampleAsks() []string {
	return []string{
		"\x01\x00\x00\x00\x00",
		"\x01\x00\x00\x00\x03abc",
		"\x01\x00\x00\x01\x02" + strings.Repeat("q", 258),
		"\x02\x00\x01\x02\x03\x04\x05\x06\x07\x80\x90\xa0\xb0\xc0\xd0\xe0\xf0",
		"\x03\xff\xff\xff\xff\xff\xff\xff\xfe",
		"\x04",
		"\x05" + nought + "\x07",
		"\x06",
	}
}

// sampleReplies answers a form of each kind, with an error and without.
func sampleReplies() []string {
	fine := "\x00\x00\x00\x00"
	return []string{
		"\x01" + fine + "\x00" + nought + "\x07",
		"\x01" + fine + "\x01\x80\x90\xa0\xb0\xc0\xd0\xe0\xf0",
		"\x02" + fine + nought + "\x09" + "\x00\x00\x00\x00",
		"\x02" + fine + nought + "\x09" + "\x00\x00\x00\x03abc",
		"\x02" + fine + nought + "\x09" + "\x00\x00\x01\x02" + strings.Repeat("q", 258),
		"\x03" + fine + "\xff\xff\xff\xff\xff\xff\xff\xfe",
		"\x04" + fine + nought + "\x08",
		"\x05" + fine + nought + "\x07",
		"\x06" + fine + nought + "\x07\x00\x01\x02\x03\x04\x05\x06\x07",
		"\x00\x00\x00\x00\x5a",
		"\x00\x7f\xff\xff\xff",
		"\x01\x00\x00\x00\x01",
		"\x02\x00\x00\x00\x02",
		"\x03\x00\x00\x01\x00",
		"\x04\x00\x01\x00\x00",
		"\x05\x00\x00\x00\x3c",
		"\x06\x01\x00\x00\x00",
	}
}
