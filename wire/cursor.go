package wire

import (
	"gantry/api"
	"gantry/varint"
)

// cursor is the bytes that are read and the place in them. Its calls that read give up by a panic with a failure, and may have passed some bytes by then.
type cursor struct {
	place
	bytes string
}

func (c *cursor) left() int { return len(c.bytes) - c.At() }

func (c *cursor) rest() string { return c.bytes[c.At():] }

func (c *cursor) raw(n int) string {
	giveUpIf(n < 0, api.ErrRange)
	giveUpIf(n > c.left(), api.ErrShort)
	s := c.rest()[:n]
	c.pass(n)
	return s
}

func (c *cursor) number(size int) uint64 {
	s := c.raw(size)
	var v uint64
	for i := range len(s) {
		v = v<<8 | uint64(s[i])
	}
	return v
}

func (c *cursor) uvarint() uint64 {
	v, n, e := varint.Read[uint64](c.rest())
	giveUpIf(e != api.OK, e)
	c.pass(n)
	return v
}

func (c *cursor) varint() int64 { return varint.Unzigzag(c.uvarint()) }

func (c *cursor) text(most int) string { return c.sized(c.uvarint(), most) }

func (c *cursor) opt(most int) api.Opt {
	n := c.varint()
	if n == null {
		return api.Opt{}
	}
	giveUpIf(n < 0, api.ErrLong)
	return api.Opt{Has: true, Data: c.sized(uint64(n), most)}
}

// sized reads the n bytes of a text. n may be any number that stood in the bytes, so it is no int till it is held against the bounds.
func (c *cursor) sized(n uint64, most int) string {
	giveUpIf(n > uint64(max(most, 0)), api.ErrLong)
	giveUpIf(n > uint64(c.left()), api.ErrLong)
	return c.raw(int(n))
}

// failure is what a cursor gives up with; no panic of it leaves attempt.
type failure struct {
	why api.Errno
}

func giveUpIf(fault bool, why api.Errno) {
	if fault {
		panic(failure{why})
	}
}
