package bcj2

const (
	callMark = 0xe8
	jumpMark = 0xe9

	escape   = 0x0f // behind it, bytes of the form farMark are jumps
	farMark  = 0x80
	farForm  = 0xf0
	placeLen = 4 // bytes of a target, or of its place
)

// Which bit is likely is kept apart for each byte ahead of a call, for jumps E9, and for the other jumps.
const (
	calls      = 256
	jumpChance = calls
	farChance  = calls + 1
	chances    = calls + 2
)

// chance: the number of an instruction's probability, by its byte and the one ahead of it; false, if it is none.
func chance(ahead, x byte) (int, bool) {
	switch {
	case x == callMark:
		return int(ahead), true
	case x == jumpMark:
		return jumpChance, true
	case ahead == escape && x&farForm == farMark:
		return farChance, true
	}
	return 0, false
}

// isCall: whether the instructions of a probability are calls.
func isCall(chance int) bool { return chance < calls }
