package crc_test

import (
	"bytes"
	"hash/crc32"
	"math/bits"
	"math/rand"
	"testing"

	"garbler/crc"
)

// model goes through the chapter's words one by one, on a register that is a row of 32 bits, the least one first.
func model(b []byte) uint32 {
	var register [32]bool
	for i := range register {
		register[i] = true
	}
	for _, x := range b {
		for i := range 8 {
			register[i] = register[i] != (x>>i&1 == 1)
		}
		for range 8 {
			out := register[0]
			copy(register[:], register[1:])
			register[31] = false
			for i := range register {
				register[i] = register[i] != (out && 0xedb88320>>i&1 == 1)
			}
		}
	}
	sum := uint32(0)
	for i, one := range register {
		if !one {
			sum |= 1 << i
		}
	}
	return sum
}

// row: n bytes that hang on seed alone.
func row(seed int64, n int) []byte {
	b := make([]byte, n)
	rand.New(rand.NewSource(seed)).Read(b)
	return b
}

func TestOfExamples(t *testing.T) {
	for _, e := range []struct {
		b    []byte
		want uint32
	}{
		{nil, 0},
		{[]byte{}, 0},
		{[]byte("123456789"), 0xcbf43926},
		{[]byte{0}, 0xd202ef8d},
		{[]byte{255}, 0xff000000},
		{[]byte{255, 255, 255, 255}, 0xffffffff},
		{make([]byte, 32), 0x190a55ad},
		{bytes.Repeat([]byte{255}, 32), 0xff6cab0b},
	} {
		if v := crc.Of(e.b); v != e.want {
			t.Errorf("P2.2: of %x: %x, not %x", e.b, v, e.want)
		}
	}
}

func TestOfEveryByte(t *testing.T) {
	for x := range 256 {
		for _, b := range [][]byte{{byte(x)}, {0, byte(x)}, {byte(x), 0}, {255, byte(x), 1, 2, 3}} {
			if v := crc.Of(b); v != model(b) {
				t.Errorf("P2.2: of %x: %x, not %x", b, v, model(b))
			}
		}
	}
}

func TestOfRows(t *testing.T) {
	for n := range 300 {
		b := row(int64(n), n)
		if v := crc.Of(b); v != model(b) {
			t.Errorf("P2.2: of %d bytes: %x, not %x", n, v, model(b))
		}
	}
	long := row(1, 1<<20+1)
	if v := crc.Of(long); v != crc32.ChecksumIEEE(long) {
		t.Errorf("P2.2: of %d bytes: %x", len(long), v)
	}
}

func TestNewHasTakenNothing(t *testing.T) {
	s := crc.New()
	s.Add(nil)
	s.Add([]byte{})
	if s.Value() != 0 || s.Count() != 0 {
		t.Errorf("P2.1: %x of %d bytes", s.Value(), s.Count())
	}
	s.Add([]byte("123456789"))
	if v := crc.New(); v == s || v.Value() != 0 || v.Count() != 0 {
		t.Error("P2.1: a new sum has bytes of another")
	}
	if s.Value() != 0xcbf43926 || s.Count() != 9 {
		t.Errorf("P2.1: %x of %d bytes", s.Value(), s.Count())
	}
}

// TestTaking lets sums take bytes, one by one and many, and looks at them behind each step.
func TestTaking(t *testing.T) {
	for seed := range int64(200) {
		r := rand.New(rand.NewSource(seed))
		s := crc.New()
		var all []byte
		for range 12 {
			piece := row(r.Int63(), r.Intn(6))
			if r.Intn(2) == 0 {
				s.Add(piece)
			} else {
				for _, x := range piece {
					s.Byte(x)
				}
			}
			all = append(all, piece...)
			for range 1 + r.Intn(3) { // to look once more changes nothing
				if s.Value() != model(all) || s.Count() != len(all) {
					t.Fatalf("P2.1: %x: %x of %d bytes, not %x of %d", all, s.Value(), s.Count(), model(all), len(all))
				}
			}
		}
	}
}

func TestTwoSumsShareNothing(t *testing.T) {
	one, two := crc.New(), crc.New()
	a, b := row(3, 40), row(4, 40)
	for i := range a {
		one.Byte(a[i])
		two.Add(b[i : i+1])
	}
	if one.Value() != model(a) || two.Value() != model(b) || one.Count() != 40 || two.Count() != 40 {
		t.Errorf("P2.1: %x and %x, not %x and %x", one.Value(), two.Value(), model(a), model(b))
	}
}

// TestAddLeavesItsBytes: what is handed in isn't changed, behind its end neither, and may be written over.
func TestAddLeavesItsBytes(t *testing.T) {
	b, want := row(5, 64), row(5, 64)
	s := crc.New()
	s.Add(b[:20])
	crc.Of(b[20:30])
	if !bytes.Equal(b, want) {
		t.Error("P2.1: the bytes were changed")
	}
	clear(b)
	s.Add(want[20:])
	if s.Value() != model(want) {
		t.Error("P2.1: the bytes were kept")
	}
}

func TestPieces(t *testing.T) {
	b := row(6, 40)
	want := crc.Of(b)
	for i := range len(b) + 1 {
		for j := i; j <= len(b); j++ {
			s := crc.New()
			s.Add(b[:i])
			s.Add(b[i:j])
			s.Add(b[j:])
			if s.Value() != want || s.Count() != len(b) {
				t.Fatalf("P2.3: cut at %d and %d: %x of %d bytes, not %x", i, j, s.Value(), s.Count(), want)
			}
		}
	}
}

// turned: b with these bits turned, the least of them at bit at. The bits of a byte count from its least one on, as the register takes them.
func turned(b []byte, at int, burst uint32) []byte {
	b = bytes.Clone(b)
	for i := range 32 {
		if burst>>i&1 == 1 {
			b[(at+i)/8] ^= 1 << ((at + i) % 8)
		}
	}
	return b
}

// bursts: differences within 32 bits: all that are short, those of two bits, and many that are not.
func bursts() []uint32 {
	var list []uint32
	for v := uint32(1); v < 1<<8; v++ {
		list = append(list, v, v<<24, bits.Reverse32(v)|1)
	}
	for i := range 32 {
		list = append(list, 1|1<<i, 1<<i, ^uint32(0)>>i)
	}
	r := rand.New(rand.NewSource(7))
	for range 2000 {
		list = append(list, r.Uint32()|1)
	}
	// What the register is xored with, moved about: that is what a difference would have to be made of to be missed.
	for i := range 32 {
		list = append(list, 0xedb88320<<i, 0xedb88320>>i, bits.Reverse32(0xedb88320)<<i, bits.Reverse32(0xedb88320)>>i)
	}
	return list
}

func TestBursts(t *testing.T) {
	b := row(8, 7)
	want := crc.Of(b)
	list := bursts()
	for at := range 8*len(b) - 31 {
		for _, burst := range list {
			if burst == 0 {
				continue
			}
			if c := turned(b, at, burst); crc.Of(c) == want {
				t.Fatalf("P2.3: %x and %x have one sum", b, c)
			}
		}
	}
}

// TestFirstAndLastByteOfBursts: rows that differ in no more than two bytes, the first and the last of four, have all unlike sums.
func TestFirstAndLastByteOfBursts(t *testing.T) {
	b := []byte{1, 2, 3, 4, 5, 6, 7, 8}
	for at := range len(b) - 3 {
		b := bytes.Clone(b)
		seen := map[uint32]bool{}
		for v := range 1 << 16 {
			b[at], b[at+3] = byte(v), byte(v>>8)
			seen[crc.Of(b)] = true
		}
		if len(seen) != 1<<16 {
			t.Errorf("P2.3: %d sums of %d rows", len(seen), 1<<16)
		}
	}
}
