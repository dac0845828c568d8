package crc

// Digest takes bytes in piece by piece. The zero one has taken nothing in; a nil one never takes anything in.
type Digest struct {
	sum   uint32
	count int
}

// New answers a digest that has taken nothing in.
func New() *Digest { return &Digest{} }

// Write takes s in behind all that was taken in, and answers the number of its bytes.
func (d *Digest) Write(s string) int {
	if d == nil {
		return 0
	}
	d.sum = More(d.sum, s)
	d.count += len(s)
	return len(s)
}

// Sum answers the sum of all that was taken in.
func (d *Digest) Sum() uint32 {
	if d == nil {
		return 0
	}
	return d.sum
}

// Len answers how many bytes were taken in.
func (d *Digest) Len() int {
	if d == nil {
		return 0
	}
	return d.count
}

// Reset forgets all that was taken in.
func (d *Digest) Reset() {
	if d != nil {
		*d = Digest{}
	}
}

// Clone answers a digest of its own that has taken the same in, and nil of nil.
func (d *Digest) Clone() *Digest {
	if d == nil {
		return nil
	}
	twin := *d
	return &twin
}
