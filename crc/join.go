package crc

const (
	// one is the polynomial 1, and byteMoves the one that a register is multiplied by when it takes in a byte 00: x to the power 8.
	one       = highest
	byteMoves = highest >> bitsOfByte

	bytesOfSum = 4
)

// Join answers the sum of bytes a and b behind them, of the sums of a and of b and the number n of b's bytes.
// An n below 0 counts as 0.
func Join(first, second uint32, n int) uint32 {
	return product(first, zeros(n)) ^ second
}

// Behind answers the sum of b, of the sum of bytes a and b behind them, the sum of a, and the number n of b's bytes.
// Join's answer and its second number differ by the same bits, whichever of the two is looked for.
func Behind(whole, first uint32, n int) uint32 { return Join(first, whole, n) }

// Fix answers the four bytes that lead from one sum to another.
// The first four bytes taken in are laid over the whole register, so they are what it has to be less what it is.
func Fix(sum, want uint32) string {
	needed := movedBack(want^mask, bytesOfSum*bitsOfByte) ^ sum ^ mask
	var z [bytesOfSum]byte
	for i := range z {
		z[i] = byte(needed >> (bitsOfByte * i))
	}
	return string(z[:])
}

// zeros answers the polynomial that a register is multiplied by when it takes in n bytes 00.
func zeros(n int) uint32 {
	power, square := uint32(one), uint32(byteMoves)
	for ; n > 0; n /= 2 {
		if n%2 != 0 {
			power = product(power, square)
		}
		square = product(square, square)
	}
	return power
}

// product multiplies two polynomials and leaves what CRC-32C's leaves of them.
func product(a, b uint32) uint32 {
	var out uint32
	for ; a != 0; a <<= 1 {
		if a&highest != 0 {
			out ^= b
		}
		b = movedOn(b, 1)
	}
	return out
}
