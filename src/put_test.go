package src_test

import (
	"bytes"
	"math"
	"math/big"
	"slices"
	"testing"

	"garbler/api"
	"garbler/src"
)

func TestAddAndTimes(t *testing.T) {
	list := edges()
	for _, a := range list {
		for _, b := range list {
			x, y := new(big.Int).SetUint64(a), new(big.Int).SetUint64(b)
			checkSum(t, "Add", a, b, src.Add, new(big.Int).Add(x, y))
			checkSum(t, "Times", a, b, src.Times, new(big.Int).Mul(x, y))
		}
	}
}

// checkSum holds what f answers against the number that it has to be.
func checkSum(t *testing.T, what string, a, b uint64, f func(a, b uint64) (uint64, bool), want *big.Int) {
	t.Helper()
	v, ok := f(a, b)
	if ok != want.IsUint64() || ok && v != want.Uint64() || !ok && v != 0 {
		t.Errorf("P1.3: %s(%d, %d): %d %v, not %v", what, a, b, v, ok, want)
	}
}

func TestPut(t *testing.T) {
	head := []byte{9, 8}
	for _, e := range []struct {
		size int
		v    uint64
		want []byte
	}{
		{1, 0x88, []byte{9, 8, 0x88}},
		{1, 0x1288, []byte{9, 8, 0x88}},
		{2, 0x1234, []byte{9, 8, 0x34, 0x12}},
		{2, 0xab1234, []byte{9, 8, 0x34, 0x12}},
		{4, 1, []byte{9, 8, 1, 0, 0, 0}},
		{4, math.MaxUint64, []byte{9, 8, 255, 255, 255, 255}},
		{8, 0x0102030405060708, []byte{9, 8, 8, 7, 6, 5, 4, 3, 2, 1}},
		{0, 5, head}, {3, 5, head}, {5, 5, head}, {16, 5, head}, {-1, 5, head}, {math.MaxInt, 5, head}, {math.MinInt, 5, head},
	} {
		if b := src.Put(head, e.size, e.v); !bytes.Equal(b, e.want) {
			t.Errorf("P1.4: Put(%d, %x): %x, not %x", e.size, e.v, b, e.want)
		}
	}
	if b := src.Put(nil, 3, 1); len(b) != 0 {
		t.Errorf("P1.4: %x", b)
	}
}

func TestPutNumber(t *testing.T) {
	for _, e := range []struct {
		v    uint64
		want []byte
	}{
		{0, []byte{0}},
		{127, []byte{0x7f}},
		{128, []byte{0x80, 0x80}},
		{1<<14 - 1, []byte{0xbf, 0xff}},
		{1 << 14, []byte{0xc0, 0, 0x40}},
		{1<<49 - 1, []byte{0xfd, 255, 255, 255, 255, 255, 255}},
		{1 << 49, []byte{0xfe, 0, 0, 0, 0, 0, 0, 2}},
		{1<<56 - 1, []byte{0xfe, 255, 255, 255, 255, 255, 255, 255}},
		{1 << 56, []byte{0xff, 0, 0, 0, 0, 0, 0, 0, 1}},
		{math.MaxUint64, []byte{0xff, 255, 255, 255, 255, 255, 255, 255, 255}},
	} {
		if b := src.PutNumber([]byte{1, 2}, e.v); !bytes.Equal(b, append([]byte{1, 2}, e.want...)) {
			t.Errorf("P1.4: PutNumber(%d): %x, not %x behind 0102", e.v, b, e.want)
		}
	}
}

func TestPutBitsAndPutTold(t *testing.T) {
	yes, no := true, false
	for _, e := range []struct {
		row        []bool
		bits, told []byte
	}{
		{nil, []byte{5}, []byte{5, 1}},
		{[]bool{yes}, []byte{5, 0x80}, []byte{5, 1}},
		{[]bool{no}, []byte{5, 0}, []byte{5, 0, 0}},
		{[]bool{yes, no, yes}, []byte{5, 0xa0}, []byte{5, 0, 0xa0}},
		{[]bool{no, no, no, no, no, no, no, yes}, []byte{5, 1}, []byte{5, 0, 1}},
		{[]bool{yes, yes, yes, yes, yes, yes, yes, yes}, []byte{5, 0xff}, []byte{5, 1}},
		{[]bool{no, no, no, no, no, no, no, no, yes}, []byte{5, 0, 0x80}, []byte{5, 0, 0, 0x80}},
		{[]bool{yes, yes, yes, yes, yes, yes, yes, yes, no}, []byte{5, 0xff, 0}, []byte{5, 0, 0xff, 0}},
	} {
		if b := src.PutBits([]byte{5}, e.row); !bytes.Equal(b, e.bits) {
			t.Errorf("P1.4: PutBits(%v): %x, not %x", e.row, b, e.bits)
		}
		if b := src.PutTold([]byte{5}, e.row); !bytes.Equal(b, e.told) {
			t.Errorf("P1.4: PutTold(%v): %x, not %x", e.row, b, e.told)
		}
	}
}

func TestPutSharesNothing(t *testing.T) {
	row := []bool{true, false}
	for what, put := range map[string]func(b []byte) []byte{
		"Put":         func(b []byte) []byte { return src.Put(b, 4, math.MaxUint64) },
		"Put nothing": func(b []byte) []byte { return src.Put(b, 3, math.MaxUint64) },
		"PutNumber":   func(b []byte) []byte { return src.PutNumber(b, math.MaxUint64) },
		"PutBits":     func(b []byte) []byte { return src.PutBits(b, row) },
		"PutNoBits":   func(b []byte) []byte { return src.PutBits(b, nil) },
		"PutTold":     func(b []byte) []byte { return src.PutTold(b, row) },
	} {
		room := []byte{1, 2, 7, 7, 7, 7, 7, 7, 7, 7, 7, 7, 7, 7}
		was := bytes.Clone(room)
		out := put(room[:2])
		_ = append(out, 66)
		out[0] = 55
		if !bytes.Equal(room, was) {
			t.Errorf("P1.4: %s wrote into what it was handed: %x", what, room)
		}
	}
}

func TestFeed(t *testing.T) {
	b := []byte{3, 0, 255}
	f := src.NewFeed(b)
	b[0], b[1], b[2] = 9, 9, 9
	for i, want := range []byte{3, 0, 255} {
		if f.Left() != 3-i {
			t.Errorf("P1.5: %d left, not %d", f.Left(), 3-i)
		}
		if x, ok := f.Next(); x != want || !ok {
			t.Errorf("P1.5: %d %v, not %d", x, ok, want)
		}
	}
	for range 3 {
		if x, ok := f.Next(); x != 0 || ok || f.Left() != 0 {
			t.Errorf("P1.5: behind the end: %d %v, %d left", x, ok, f.Left())
		}
	}
	if !bytes.Equal(b, []byte{9, 9, 9}) {
		t.Errorf("P1.5: what was handed in is changed: %x", b)
	}
	f = src.NewFeed(nil)
	if x, ok := f.Next(); x != 0 || ok || f.Left() != 0 {
		t.Errorf("P1.5: of nothing: %d %v", x, ok)
	}
}

func TestPutIsReadAsItWas(t *testing.T) {
	for _, v := range edges() {
		for _, size := range []int{1, 2, 4, 8} {
			c := src.New(src.Put(nil, size, v))
			want := v << (64 - 8*size) >> (64 - 8*size)
			if x := c.Num(size); x != want || c.Left() != 0 || c.Code() != api.OK {
				t.Errorf("P1.6: Put(%d, %x): %x", size, v, x)
			}
		}
	}
	for n := range 12 {
		for x := range 1 << n {
			var row []bool
			for i := range n {
				row = append(row, x>>i&1 == 1)
			}
			c := src.New(src.PutTold(src.PutBits(nil, row), row))
			a, b := c.Bits(n), c.Told(n)
			if !slices.Equal(a, row) || !slices.Equal(b, row) || c.Left() != 0 || c.Code() != api.OK {
				t.Errorf("P1.6: %v: %v, %v", row, a, b)
			}
		}
	}
}

func TestOneShortNumberIsShortest(t *testing.T) {
	for _, v := range edges() {
		put := src.PutNumber(nil, v)
		shortest := 0
		for _, b := range encodings(v) {
			c := src.New(b)
			if x := c.Number(); x != v || c.Left() != 0 || c.Code() != api.OK {
				t.Errorf("P1.6: %x: %d, not %d", b, x, v)
			}
			if len(b) < len(put) || len(b) == len(put) && !bytes.Equal(b, put) {
				t.Errorf("P1.6: PutNumber(%d): %x, but %x is one too", v, put, b)
			}
			if len(b) == len(put) {
				shortest++
			}
		}
		if shortest != 1 {
			t.Errorf("P1.6: %d: %d shortest ones", v, shortest)
		}
	}
}
