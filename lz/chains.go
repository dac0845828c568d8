package lz

import (
	"gantry/api"
)

const (
	bucketBits = 13
	buckets    = 1 << bucketBits
	// spread is the whole number next to 2^32 by the golden ratio: a product by it mixes all bits into its high ones.
	spread = 2654435769
)

// chains are the places where a match may begin, each chained to the one ahead that begins with the same bytes (or with others of their bucket).
// A place is kept as one more than it is, so that 0 is none.
type chains struct {
	// last has for each bucket the last place.
	last [buckets]int
	// ahead has for each place of the window, at its remainder, the one ahead of it in its chain.
	ahead [api.Window]int
}

// Best answers the length and the distance of the best match at at, or 0, 0.
func Best(s string, at int) (length, distance int) {
	if at < 0 || at >= len(s) {
		return 0, 0
	}
	var c chains
	for place := max(at-api.Window, 0); place < at; place++ {
		c.add(s, place)
	}
	return c.best(s, at)
}

// add chains the place at, which is behind all that were added. Where too few bytes are left for a match, none begins.
func (c *chains) add(s string, at int) {
	if len(s)-at < api.LeastMatch {
		return
	}
	b := bucket(s, at)
	c.ahead[at%api.Window] = c.last[b]
	c.last[b] = at + 1
}

// best answers the best match at at, of those that begin at an added place; all places of the window ahead of at must be added, and at not.
// The chain leads from near to far: so a match that is only as long as one that was found is the farther one.
func (c *chains) best(s string, at int) (length, distance int) {
	most := min(len(s)-at, api.MostMatch)
	if most < api.LeastMatch {
		return 0, 0
	}
	longest := api.LeastMatch - 1
	for from := c.last[bucket(s, at)] - 1; from >= 0 && at-from <= api.Window; from = c.ahead[from%api.Window] - 1 {
		// Most places are passed over by the one byte that a longer match must have.
		if s[from+longest] != s[at+longest] {
			continue
		}
		if n := alike(s, from, at, most); n > longest {
			longest, length, distance = n, n, at-from
		}
		if length == most {
			break
		}
	}
	return length, distance
}

// alike answers how many bytes from at on, most at most, are those from from on.
func alike(s string, from, at, most int) int {
	n := 0
	for n < most && s[from+n] == s[at+n] {
		n++
	}
	return n
}

// bucket answers where the chain of the LeastMatch bytes from at on begins.
func bucket(s string, at int) uint32 {
	first := uint32(s[at])<<24 | uint32(s[at+1])<<16 | uint32(s[at+2])<<8 | uint32(s[at+3])
	return first * spread >> (32 - bucketBits)
}
