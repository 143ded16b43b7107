package packet

const apart = 7 // states from it on: the packet ahead was no literal

// Apart: whether the packet ahead of a state was no literal.
func Apart(state int) bool { return state >= apart }

// BehindLiteral: the state behind a literal.
func BehindLiteral(state int) int {
	switch {
	case state < 4:
		return 0
	case state < 10:
		return state - 3
	}
	return state - 6
}

// BehindMatch: the state behind a match, or an end mark.
func BehindMatch(state int) int { return behindCopy(state, 7, 10) }

// BehindAgain: the state behind a length by an elder distance.
func BehindAgain(state int) int { return behindCopy(state, 8, 11) }

// BehindSingle: the state behind a short one.
func BehindSingle(state int) int { return behindCopy(state, 9, 11) }

// behindCopy: the state behind a packet that copies, by whether a literal was ahead of it.
func behindCopy(state, literal, copied int) int {
	if Apart(state) {
		return copied
	}
	return literal
}
