package src_test

import (
	"math/big"

	"garbler/api"
	"garbler/src"
)

// answer is what one read of a cursor came to.
type answer struct {
	value uint64
	row   []bool
	taken int
	code  api.Code
}

// modelNumber reads a short number bit by bit, as the chapter's words say it.
func modelNumber(b []byte) answer {
	if len(b) == 0 {
		return answer{code: api.Short}
	}
	k := 0
	for k < 8 && bitOf(b, k) {
		k++
	}
	if len(b) < 1+k {
		return answer{code: api.Short}
	}
	v := big.NewInt(0)
	if k < 7 {
		v.SetInt64(int64(b[0]) % (1 << (7 - k)))
	}
	for i := k; i > 0; i-- {
		v.Mul(v, big.NewInt(256))
		v.Add(v, big.NewInt(int64(b[i])))
	}
	return answer{value: v.Uint64(), taken: 1 + k}
}

// modelRow reads a row of n bits, one by one.
func modelRow(b []byte, n int) answer {
	size := 0
	for 8*size < n {
		size++
	}
	if n < 0 || len(b) < size {
		return answer{code: api.Short}
	}
	var row []bool
	for i := range 8 * size {
		if i < n {
			row = append(row, bitOf(b, i))
		} else if bitOf(b, i) {
			return answer{code: api.Header}
		}
	}
	return answer{row: row, taken: size}
}

// modelTold reads a told row of n bits.
func modelTold(b []byte, n int) answer {
	if n < 0 || len(b) == 0 {
		return answer{code: api.Short}
	}
	if b[0] > 1 {
		return answer{code: api.Header}
	}
	if b[0] == 1 {
		var row []bool
		for range n {
			row = append(row, true)
		}
		return answer{row: row, taken: 1}
	}
	a := modelRow(b[1:], n)
	if a.code == api.OK {
		a.taken++
	}
	return a
}

// bitOf: bit i of a row: of byte i / 8, of the place 7 - i modulo 8.
func bitOf(b []byte, i int) bool {
	return b[i/8]/(1<<(7-i%8))%2 == 1
}

// encodings: all short numbers that are v, by how many bytes follow the first.
func encodings(v uint64) [][]byte {
	var all [][]byte
	for k := range 9 {
		first := byte(0)
		for i := range k {
			first |= 1 << (7 - i)
		}
		if k < 8 {
			above := v >> (8 * k)
			if above >= 1<<(7-k) {
				continue
			}
			first |= byte(above)
		}
		b := []byte{first}
		for i := range k {
			b = append(b, byte(v>>(8*i)))
		}
		all = append(all, b)
	}
	return all
}

// edges: numbers about every power of two, and some between.
func edges() []uint64 {
	list := []uint64{0, 3, 300, 0x0101010101010101, 0x0123456789abcdef, 0xfedcba9876543210}
	for i := range 64 {
		p := uint64(1) << i
		list = append(list, p-1, p, p+1, -p)
	}
	return list
}

// reads are a cursor's five ways to read, each with something that may be read.
func reads(c *src.Cursor) []int {
	return []int{int(c.Num(1)), int(c.Number()), len(c.Take(0)), len(c.Take(1)), len(c.Bits(0)), len(c.Bits(1)), len(c.Told(0)), len(c.Told(1))}
}
