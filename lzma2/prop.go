package lzma2

import (
	"math"

	"garbler/api"
)

const (
	mostProp  = 40
	leastBits = 11 // the least dictionary is a multiple of 2^leastBits
)

// Dict: a property's dictionary. Props.
func Dict(p byte) (int, api.Code) {
	switch {
	case p > mostProp:
		return 0, api.Props
	case p == mostProp: // one byte less than the rule has: no setting has more
		return math.MaxUint32, api.OK
	}
	return int(2+p%2) << (p/2 + leastBits), api.OK
}

// Prop: the least property whose dictionary is great enough. Props.
func Prop(dict int) (byte, api.Code) {
	for p := range byte(mostProp + 1) {
		if has, _ := Dict(p); has >= dict {
			return p, api.OK
		}
	}
	return 0, api.Props
}
