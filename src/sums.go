package src

import "math/bits"

// Add: a sum that doesn't wrap.
func Add(a, b uint64) (uint64, bool) {
	sum, carry := bits.Add64(a, b, 0)
	if carry != 0 {
		return 0, false
	}
	return sum, true
}

// Times: a product that doesn't wrap.
func Times(a, b uint64) (uint64, bool) {
	above, product := bits.Mul64(a, b)
	if above != 0 {
		return 0, false
	}
	return product, true
}
