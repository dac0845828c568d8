// Package wire is layer 2: numbers and texts written one behind the other, and read again, with every length held against what is there. See shared/doc/02-wire.md.
package wire

// place is what a writer and a reader count with: how many bytes lie behind them.
type place struct {
	at int
}

// At answers how many bytes lie behind the place.
func (p *place) At() int { return p.at }

func (p *place) pass(n int) { p.at += n }
