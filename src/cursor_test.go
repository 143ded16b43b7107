package src_test

import (
	"bytes"
	"math"
	"slices"
	"testing"

	"garbler/api"
	"garbler/src"
)

// check holds a cursor that began at b, and what it read, against what was to come.
func check(t *testing.T, what string, c *src.Cursor, b []byte, value uint64, row []bool, want answer) {
	t.Helper()
	left := len(b) - want.taken
	if want.code != api.OK {
		left = 0
	}
	if value != want.value || !slices.Equal(row, want.row) {
		t.Errorf("P1.1: %s of %x: %d %v, not %d %v", what, b, value, row, want.value, want.row)
	}
	if c.Code() != want.code || c.At() != want.taken || c.Left() != left {
		t.Errorf("P1.2: %s of %x: code %d, at %d, left %d; not %d, %d, %d", what, b, c.Code(), c.At(), c.Left(), want.code, want.taken, left)
	}
}

func TestNum(t *testing.T) {
	b := []byte{0xf1, 0xe2, 0xd3, 0xc4, 0xb5, 0xa6, 0x97, 0x88, 0x79}
	sizes := map[int]uint64{1: 0xf1, 2: 0xe2f1, 4: 0xc4d3e2f1, 8: 0x8897a6b5c4d3e2f1}
	for size, want := range sizes {
		c := src.New(b)
		check(t, "Num", c, b, c.Num(size), nil, answer{value: want, taken: size})
		c = src.New(b[:size])
		check(t, "Num", c, b[:size], c.Num(size), nil, answer{value: want, taken: size})
		c = src.New(b[:size-1])
		check(t, "Num", c, b[:size-1], c.Num(size), nil, answer{code: api.Short})
	}
	for _, size := range []int{0, 3, 5, 6, 7, 9, 16, -1, -8, math.MaxInt, math.MinInt} {
		c := src.New(b)
		check(t, "Num of no size", c, b, c.Num(size), nil, answer{code: api.Short})
	}
	c := src.New(b)
	if c.Num(2) != 0xe2f1 || c.Num(1) != 0xd3 || c.Num(4) != 0x97a6b5c4 || c.Num(2) != 0x7988 {
		t.Error("P1.1: numbers one behind the other")
	}
}

func TestNumber(t *testing.T) {
	for _, e := range []struct {
		b    []byte
		want uint64
	}{
		{[]byte{0x80, 0x80}, 128},
		{[]byte{0x7f}, 127},
		{[]byte{0x00}, 0},
		{[]byte{0xff, 1, 1, 1, 1, 1, 1, 1, 1}, 0x0101010101010101},
		{[]byte{0xff, 255, 255, 255, 255, 255, 255, 255, 255}, math.MaxUint64},
		{[]byte{0xfe, 1, 2, 3, 4, 5, 6, 7}, 0x07060504030201},
		{[]byte{0xfd, 1, 2, 3, 4, 5, 6}, 0x01060504030201},
		{[]byte{0xbf, 0x12}, 0x3f12},
		{[]byte{0x80, 0x00}, 0},
	} {
		c := src.New(e.b)
		check(t, "Number", c, e.b, c.Number(), nil, answer{value: e.want, taken: len(e.b)})
	}
}

func TestNumberIsAsTheModelSays(t *testing.T) {
	tails := [][]byte{{0, 0, 0, 0, 0, 0, 0, 0, 0}, {1, 2, 3, 4, 5, 6, 7, 8, 9}, {255, 254, 253, 252, 251, 250, 249, 248, 247}}
	for first := range 256 {
		for _, tail := range tails {
			for n := range len(tail) + 1 {
				b := append([]byte{byte(first)}, tail[:n]...)
				c := src.New(b)
				check(t, "Number", c, b, c.Number(), nil, modelNumber(b))
			}
		}
	}
	c := src.New(nil)
	check(t, "Number", c, nil, c.Number(), nil, modelNumber(nil))
}

func TestTake(t *testing.T) {
	b := []byte{1, 2, 3, 4}
	c := src.New(b)
	if x := c.Take(0); len(x) != 0 || c.At() != 0 || c.Left() != 4 || c.Code() != api.OK {
		t.Errorf("P1.1: Take(0): %x", x)
	}
	if x := c.Take(3); !bytes.Equal(x, b[:3]) || c.At() != 3 || c.Left() != 1 {
		t.Errorf("P1.1: Take(3): %x", x)
	}
	if x := c.Take(1); !bytes.Equal(x, b[3:]) || c.At() != 4 || c.Left() != 0 {
		t.Errorf("P1.1: Take(1): %x", x)
	}
	if x := c.Take(0); len(x) != 0 || c.Code() != api.OK {
		t.Errorf("P1.1: Take(0) at the end: %x, %d", x, c.Code())
	}
	for _, n := range []uint64{4, 5, 1 << 31, 1 << 32, 1<<32 + 1, 1 << 63, math.MaxUint64} {
		c := src.New(b)
		c.Num(1)
		if x := c.Take(n); len(x) != 0 || c.Code() != api.Short || c.At() != 1 || c.Left() != 0 {
			t.Errorf("P1.1: Take(%d): %x, %d, %d", n, x, c.Code(), c.At())
		}
	}
}

func TestBits(t *testing.T) {
	c := src.New([]byte{0xa0})
	check(t, "Bits", c, []byte{0xa0}, 0, c.Bits(3), answer{row: []bool{true, false, true}, taken: 1})
	c = src.New([]byte{0xa1})
	check(t, "Bits", c, []byte{0xa1}, 0, c.Bits(3), answer{code: api.Header})
	for _, n := range []int{-1, -8, math.MinInt, 25, math.MaxInt, math.MaxInt - 7} {
		b := []byte{1, 2, 3}
		c := src.New(b)
		check(t, "Bits of too many or too few", c, b, 0, c.Bits(n), answer{code: api.Short})
	}
}

func TestRowsAreAsTheModelSays(t *testing.T) {
	for x := range 1 << 16 {
		for _, b := range [][]byte{{byte(x >> 8), byte(x)}, {byte(x >> 8)}, {0, byte(x >> 8), byte(x)}} {
			n := x % 19
			c := src.New(b)
			check(t, "Bits", c, b, 0, c.Bits(n), modelRow(b, n))
			c = src.New(b)
			check(t, "Told", c, b, 0, c.Told(n), modelTold(b, n))
		}
	}
	for n := -1; n < 20; n++ {
		for _, b := range [][]byte{{}, {0}, {1}, {2}, {0, 0, 0, 0}, {1, 0, 0, 0}, {0xff, 0xff, 0xff}, {0, 0xff, 0xff, 0xff}} {
			c := src.New(b)
			check(t, "Bits", c, b, 0, c.Bits(n), modelRow(b, n))
			c = src.New(b)
			check(t, "Told", c, b, 0, c.Told(n), modelTold(b, n))
		}
	}
}

func TestTold(t *testing.T) {
	for _, e := range []struct {
		b    []byte
		n    int
		want answer
	}{
		{[]byte{1}, 2, answer{row: []bool{true, true}, taken: 1}},
		{[]byte{1}, 0, answer{taken: 1}},
		{[]byte{0}, 0, answer{taken: 1}},
		{[]byte{0, 0x40}, 2, answer{row: []bool{false, true}, taken: 2}},
		{[]byte{0, 0xc0}, 2, answer{row: []bool{true, true}, taken: 2}},
		{[]byte{0, 0xe0}, 2, answer{code: api.Header}},
		{[]byte{0}, 1, answer{code: api.Short}},
		{[]byte{0, 0xff}, 9, answer{code: api.Short}},
		{[]byte{2, 0}, 1, answer{code: api.Header}},
		{[]byte{255}, 0, answer{code: api.Header}},
		{nil, 0, answer{code: api.Short}},
		{[]byte{1}, -1, answer{code: api.Short}},
		{[]byte{2}, -1, answer{code: api.Short}},
		{[]byte{0, 0}, math.MaxInt, answer{code: api.Short}},
		{[]byte{1}, math.MaxInt, answer{code: api.Short}},
		{[]byte{1}, 1 << 31, answer{code: api.Short}},
		{[]byte{1}, math.MinInt, answer{code: api.Short}},
	} {
		c := src.New(e.b)
		check(t, "Told", c, e.b, 0, c.Told(e.n), e.want)
	}
}

func TestAtIsAheadOfWhatFailed(t *testing.T) {
	for _, e := range []struct {
		b    []byte
		read func(c *src.Cursor)
		code api.Code
	}{
		{[]byte{9, 9, 1}, func(c *src.Cursor) { c.Num(2) }, api.Short},
		{[]byte{9, 9, 0xc0, 1}, func(c *src.Cursor) { c.Number() }, api.Short},
		{[]byte{9, 9, 1}, func(c *src.Cursor) { c.Take(2) }, api.Short},
		{[]byte{9, 9, 1}, func(c *src.Cursor) { c.Bits(9) }, api.Short},
		{[]byte{9, 9, 0, 1}, func(c *src.Cursor) { c.Bits(9) }, api.Header},
		{[]byte{9, 9, 0, 1}, func(c *src.Cursor) { c.Told(9) }, api.Short},
		{[]byte{9, 9, 0, 1}, func(c *src.Cursor) { c.Told(7) }, api.Header},
		{[]byte{9, 9, 3, 0}, func(c *src.Cursor) { c.Told(7) }, api.Header},
	} {
		c := src.New(e.b)
		c.Num(2)
		e.read(c)
		if c.At() != 2 || c.Left() != 0 || c.Code() != e.code {
			t.Errorf("P1.2: %x: at %d, left %d, code %d", e.b, c.At(), c.Left(), c.Code())
		}
	}
}

func TestOverStaysOver(t *testing.T) {
	for code, over := range map[api.Code]func(c *src.Cursor){
		api.Short:  func(c *src.Cursor) { c.Num(3) },
		api.Header: func(c *src.Cursor) { c.Told(1) },
	} {
		c := src.New([]byte{1, 7, 1, 1, 1, 1, 1, 1, 1, 1, 1})
		c.Num(1)
		over(c)
		if got := reads(c); !slices.Equal(got, make([]int, len(got))) {
			t.Errorf("P1.1: over, but %v is read", got)
		}
		c.Num(5)
		c.Told(-1)
		c.Bits(-1)
		c.Take(math.MaxUint64)
		if c.Code() != code || c.At() != 1 || c.Left() != 0 {
			t.Errorf("P1.2: over by %d: code %d, at %d, left %d", code, c.Code(), c.At(), c.Left())
		}
	}
}

func TestCursorAtTheEndIsNotOver(t *testing.T) {
	c := src.New([]byte{5})
	if c.Left() != 1 || c.At() != 0 || c.Code() != api.OK {
		t.Error("P1.2: at the beginning")
	}
	c.Num(1)
	if c.Left() != 0 || c.At() != 1 || c.Code() != api.OK {
		t.Error("P1.2: at the end")
	}
	if len(c.Take(0)) != 0 || len(c.Bits(0)) != 0 || c.Code() != api.OK {
		t.Error("P1.1: nothing, at the end, is there")
	}
	if c.Number() != 0 || c.Code() != api.Short || c.At() != 1 {
		t.Error("P1.1: behind the end")
	}
}

func TestCursorSharesNothing(t *testing.T) {
	b := []byte{1, 2, 3, 4}
	c := src.New(b)
	b[0], b[2] = 77, 77
	x := c.Take(2)
	if !bytes.Equal(x, []byte{1, 2}) {
		t.Errorf("P1.1: the cursor reads what was written over: %x", x)
	}
	x[0], x[1] = 88, 88
	_ = append(x, 99, 99)
	if y := c.Take(2); !bytes.Equal(y, []byte{3, 4}) {
		t.Errorf("P1.1: the cursor reads what an answer's owner wrote: %x", y)
	}
	if !bytes.Equal(b, []byte{77, 2, 77, 4}) {
		t.Errorf("P1.1: what was handed in is changed: %x", b)
	}
}
