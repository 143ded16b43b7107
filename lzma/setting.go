package lzma

import (
	"math"

	"garbler/api"
	"garbler/packet"
	"garbler/src"
)

const (
	mostLc   = 8
	mostLp   = 4
	mostPb   = 4
	mostDict = math.MaxUint32
	ofProps  = 5 // bytes of properties
)

// Parse: a setting's properties. Props.
func Parse(props []byte) (api.Lzma, api.Code) {
	if len(props) != ofProps {
		return api.Lzma{}, api.Props
	}
	c := src.New(props)
	first := int(c.Num(1))
	p := api.Lzma{
		Lc:   first % (mostLc + 1),
		Lp:   first / (mostLc + 1) % (mostLp + 1),
		Pb:   first / (mostLc + 1) / (mostLp + 1),
		Dict: max(int(c.Num(4)), api.LeastDict),
	}
	if !May(p) {
		return api.Lzma{}, api.Props
	}
	return p, api.OK
}

// May: whether a setting may be.
func May(p api.Lzma) bool {
	return mayBits(p) && p.Dict >= api.LeastDict && p.Dict <= mostDict
}

// Props: the properties of a setting.
func Props(p api.Lzma) []byte {
	if !May(p) {
		return nil
	}
	first := (p.Pb*(mostLp+1)+p.Lp)*(mostLc+1) + p.Lc
	return src.Put(src.Put(nil, 1, uint64(first)), 4, uint64(p.Dict))
}

// Probs: how many probabilities there are.
func Probs(p api.Lzma) int {
	if !May(p) {
		return 0
	}
	return packet.OfChances + packet.OfLiterals(p)
}

// mayBits: whether a setting may be, but for its dictionary.
func mayBits(p api.Lzma) bool {
	return within(p.Lc, mostLc) && within(p.Lp, mostLp) && within(p.Pb, mostPb)
}

func within(n, most int) bool { return n >= 0 && n <= most }
