// Package src is layer 1: bytes that are read with care. See shared/doc/01-src.md.
package src

import (
	"bytes"
	"math/bits"

	"garbler/api"
)

// mostRow is how many bits a told row may have: otherwise its one byte could ask for any amount of memory.
const mostRow = 1<<31 - 1

// Cursor goes through bytes.
type Cursor struct {
	b    []byte
	at   int
	code api.Code
}

// New makes a cursor.
func New(b []byte) *Cursor {
	return &Cursor{b: bytes.Clone(b)} // the caller may write b over
}

// rest: what is left to read.
func (c *Cursor) rest() []byte {
	if c.code != api.OK {
		return nil
	}
	return c.b[c.at:]
}

// pass: the cursor stands n bytes further. It is the one place where it moves, so that what fails half way has read nothing.
func (c *Cursor) pass(n int) {
	c.at += n
}

// fail: the cursor is over; what failed first stays.
func (c *Cursor) fail(code api.Code) {
	if c.code == api.OK {
		c.code = code
	}
}

// Num: a number of a size.
func (c *Cursor) Num(size int) uint64 {
	rest := c.rest()
	if !isSize(size) || len(rest) < size {
		c.fail(api.Short)
		return 0
	}
	c.pass(size)
	return least(rest[:size])
}

// Number: a short number.
func (c *Cursor) Number() uint64 {
	rest := c.rest()
	if len(rest) == 0 {
		c.fail(api.Short)
		return 0
	}
	first := rest[0]
	follow := bits.LeadingZeros8(^first)
	if len(rest) < 1+follow {
		c.fail(api.Short)
		return 0
	}
	c.pass(1 + follow)
	above := uint64(first & (0x7f >> follow))
	return above<<(8*follow) | least(rest[1:1+follow])
}

// Take: so many bytes.
func (c *Cursor) Take(n uint64) []byte {
	rest := c.rest()
	if n > uint64(len(rest)) {
		c.fail(api.Short)
		return nil
	}
	c.pass(int(n))
	return bytes.Clone(rest[:n])
}

// Bits: a row of bits.
func (c *Cursor) Bits(n int) []bool {
	row, code := readRow(c.rest(), n)
	if code != api.OK {
		c.fail(code)
		return nil
	}
	c.pass(rowLen(n))
	return row
}

// Told: a told row of bits.
func (c *Cursor) Told(n int) []bool {
	rest := c.rest()
	if n < 0 || n > mostRow || len(rest) == 0 {
		c.fail(api.Short)
		return nil
	}
	switch rest[0] {
	case 0:
		row, code := readRow(rest[1:], n)
		if code != api.OK {
			c.fail(code)
			return nil
		}
		c.pass(1 + rowLen(n))
		return row
	case 1:
		c.pass(1)
		return allHold(n)
	}
	c.fail(api.Header)
	return nil
}

// Left: how many bytes are left.
func (c *Cursor) Left() int { return len(c.rest()) }

// At: how many bytes were read.
func (c *Cursor) At() int { return c.at }

// Code: OK, or why the cursor is over.
func (c *Cursor) Code() api.Code { return c.code }

// isSize: whether there are numbers of that size.
func isSize(size int) bool {
	return size == 1 || size == 2 || size == 4 || size == 8
}

// least: the number that bytes are, the least first.
func least(b []byte) uint64 {
	v := uint64(0)
	for i := range len(b) {
		v |= uint64(b[i]) << (8 * i)
	}
	return v
}

// rowLen: how many bytes a row has. (n + 7 could wrap.)
func rowLen(n int) int {
	if n%8 != 0 {
		return n/8 + 1
	}
	return n / 8
}

// readRow: the row of n bits that b begins with. Short, Header.
func readRow(b []byte, n int) ([]bool, api.Code) {
	if n < 0 || rowLen(n) > len(b) {
		return nil, api.Short
	}
	if n%8 != 0 && b[n/8]<<(n%8) != 0 {
		return nil, api.Header
	}
	row := make([]bool, n)
	for i := range n {
		row[i] = b[i/8]&(0x80>>(i%8)) != 0
	}
	return row, api.OK
}

// allHold: n bits that hold.
func allHold(n int) []bool {
	row := make([]bool, n)
	for i := range n {
		row[i] = true
	}
	return row
}
