package arena

import "garbler/api"

// mostUnits: the units of a block of the greatest size.
const mostUnits = 128

// sizes: how many units blocks have.
var sizes = [38]int{
	1, 2, 3, 4,
	6, 8, 10, 12,
	15, 18, 21, 24,
	28, 32, 36, 40, 44, 48, 52, 56, 60, 64, 68, 72, 76, 80, 84, 88, 92, 96, 100, 104, 108, 112, 116, 120, 124, 128,
}

// mayBe: whether there is a size for n units.
func mayBe(n int) bool { return 1 <= n && n <= mostUnits }

// sizeFor: which of the sizes is the least for n units.
func sizeFor(n int) int {
	switch {
	case n <= 4:
		return n - 1
	case n <= 12:
		return (n + 3) / 2
	case n <= 24:
		return (n + 11) / 3
	}
	return (n + 23) / 4
}

// lenOf: the bytes of a block of a size.
func lenOf(size int) int { return sizes[size] * api.UnitLen }
