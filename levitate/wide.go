package levitate

import "math/bits"

// wide is a whole number of 192 bits in two's complement, the lowest word first. The determinants of this chapter have
// up to 145 bits, so that none is cut off.
type wide [3]uint64

func widen(x int) wide {
	high := uint64(x >> 63) // the sign in all bits
	return wide{uint64(x), high, high}
}

// sign is -1, 0 or 1.
func (w wide) sign() int {
	switch {
	case w == wide{}:
		return 0
	case w[2]>>63 == 1:
		return -1
	}
	return 1
}

func (w wide) plus(other wide) wide {
	carry := uint64(0)
	for i := range w {
		w[i], carry = bits.Add64(w[i], other[i], carry)
	}
	return w
}

func (w wide) minus(other wide) wide {
	borrow := uint64(0)
	for i := range w {
		w[i], borrow = bits.Sub64(w[i], other[i], borrow)
	}
	return w
}

func (w wide) times(other wide) wide {
	var product wide
	for i, word := range w {
		carry := uint64(0)
		for k := i; k < len(product); k++ {
			high, low := bits.Mul64(word, other[k-i])
			sum, first := bits.Add64(low, carry, 0)
			whole, second := bits.Add64(product[k], sum, 0)
			product[k], carry = whole, high+first+second
		}
	}
	return product
}
