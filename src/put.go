package src

import "slices"

// Put: a number of a size behind bytes.
func Put(b []byte, size int, v uint64) []byte {
	out := withRoom(b, 8)
	if !isSize(size) {
		return out
	}
	return putLeast(out, size, v)
}

// PutNumber: the shortest short number behind bytes.
func PutNumber(b []byte, v uint64) []byte {
	follow := 0
	for follow < 8 && v >= 1<<(7*follow+7) {
		follow++
	}
	first := ^(byte(0xff) >> follow) | byte(v>>(8*follow))
	out := append(withRoom(b, 9), first)
	return putLeast(out, follow, v)
}

// PutBits: a row of bits behind bytes.
func PutBits(b []byte, row []bool) []byte {
	return putRow(withRoom(b, rowLen(len(row))), row)
}

// PutTold: a told row of bits behind bytes.
func PutTold(b []byte, row []bool) []byte {
	out := withRoom(b, 1+rowLen(len(row)))
	if !slices.Contains(row, false) {
		return append(out, 1)
	}
	return putRow(append(out, 0), row)
}

// withRoom: b's bytes in new memory, with room for n more: an append to b itself could write into its spare room.
func withRoom(b []byte, n int) []byte {
	return append(make([]byte, 0, len(b)+n), b...)
}

// putLeast: the size least bytes of v behind bytes, the least first.
func putLeast(b []byte, size int, v uint64) []byte {
	for i := range size {
		b = append(b, byte(v>>(8*i)))
	}
	return b
}

// putRow: a row of bits behind bytes.
func putRow(b []byte, row []bool) []byte {
	at := len(b)
	b = append(b, make([]byte, rowLen(len(row)))...)
	for i, bit := range row {
		if bit {
			b[at+i/8] |= 0x80 >> (i % 8)
		}
	}
	return b
}
