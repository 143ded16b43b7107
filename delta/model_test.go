package delta_test

import (
	"bytes"
	"math"
	"math/rand"
)

// modelDecoded: the plain bytes of coded ones, by the chapter's words: what lies ahead of the first byte is 0.
func modelDecoded(b []byte, d int) []byte {
	plain := make([]byte, d) // they are ahead of the first byte
	for i, x := range b {
		plain = append(plain, byte((int(x)+int(plain[i]))%256))
	}
	return plain[d:]
}

// modelCoded: the coded bytes of plain ones, likewise.
func modelCoded(b []byte, d int) []byte {
	plain := append(make([]byte, d), b...)
	var out []byte
	for i, x := range b {
		out = append(out, byte((int(x)+256-int(plain[i]))%256))
	}
	return out
}

// wrong: distances that may not be; some of them are distances that may be, but for bits that a byte or a number of 32 bits doesn't have.
func wrong() []int {
	list := []int{math.MinInt, math.MinInt + 1, math.MinInt + 256, math.MinInt32, -1 << 32, -65535, 511, 512, 513, 1 << 16, 1<<16 + 1, math.MaxInt32, 1 << 31, 1<<32 - 1, 1 << 32, 1<<32 + 1, 1<<32 + 256, math.MaxInt - 1, math.MaxInt}
	for d := -600; d <= 0; d++ {
		list = append(list, d)
	}
	for d := 257; d <= 600; d++ {
		list = append(list, d)
	}
	return list
}

// row: n bytes that hang on seed alone.
func row(seed int64, n int) []byte {
	b := make([]byte, n)
	rand.New(rand.NewSource(seed)).Read(b)
	return b
}

// lengths: those about each multiple of a distance, and little ones.
func lengths(d int) []int {
	list := []int{0, 1, 2, 3}
	for k := range 4 {
		list = append(list, max(k*d-1, 0), k*d, k*d+1)
	}
	return append(list, 4*d+d/2, 1000)
}

// rows: rows of a length: of bytes without order, of one kind of bytes (whose sums go round), and one that rises.
func rows(n int) [][]byte {
	rises := make([]byte, n)
	for i := range n {
		rises[i] = byte(3*i + 1)
	}
	list := [][]byte{row(int64(n), n), rises}
	for _, x := range []byte{0, 1, 127, 128, 200, 255} {
		list = append(list, bytes.Repeat([]byte{x}, n))
	}
	return list
}

// short: a row, or, of a long one, how it begins.
func short(b []byte) []byte { return b[:min(len(b), 40)] }
