package arena_test

import (
	"math"
	"math/rand"
	"testing"
)

// TestText: bytes come to the text's end, one by one; there is room till it is the units' start.
func TestText(t *testing.T) {
	for _, size := range []int{2048, 2143, 2144, 5000} {
		a := made(t, size)
		start := size + 1 - size/96*84
		for at := 1; at < start; at++ {
			if a.Text() != at {
				t.Fatalf("P16.4: the text ends at %d, not %d", a.Text(), at)
			}
			if is := a.Push(byte(at * 7)); is != (at+1 < start) || a.Byte(at) != byte(at*7) {
				t.Fatalf("P16.4: of %d bytes: pushed at %d: %v, %d", size, at, is, a.Byte(at))
			}
		}
	}
}

// TestRoomIsUpToTheUnitsStart: as it goes down, there is less room.
func TestRoomIsUpToTheUnitsStart(t *testing.T) {
	a := made(t, 2048)
	for range 147 {
		a.One()
	}
	if x := a.Units(10); x != 285-120 {
		t.Fatalf("P16.2: %d", x)
	}
	for at := 1; at < 165; at++ {
		if a.Push('x') != (at+1 < 165) {
			t.Fatalf("P16.4: pushed at %d", at)
		}
	}
}

// TestPushWithoutRoom: the byte comes to the text's end all the same, and there is no room; beyond the arena nothing is put.
func TestPushWithoutRoom(t *testing.T) {
	a := made(t, 2048)
	for at := 1; at < 3000; at++ {
		if a.Push('x') != (at+1 < 285) || a.Text() != at+1 {
			t.Fatalf("P16.4: pushed at %d: the text ends at %d", at, a.Text())
		}
		if x := a.Byte(at); (x == 'x') != (at <= 2048) {
			t.Fatalf("P16.4: at %d: %d", at, x)
		}
	}
	for range 2999 {
		a.Pop()
	}
	if a.Text() != 1 || !a.Push('y') || a.Byte(1) != 'y' {
		t.Error("P16.4: what was pushed without room is popped")
	}
}

// TestPop: the text's end is one less; the byte stays, till another one comes.
func TestPop(t *testing.T) {
	a := made(t, 2048)
	for i := range 10 {
		a.Push(byte(i + 1))
	}
	for i := 9; i >= 5; i-- {
		a.Pop()
		if a.Text() != i+1 || a.Byte(i+1) != byte(i+1) {
			t.Fatalf("P16.4: popped: the text ends at %d", a.Text())
		}
	}
	a.Push(77)
	if a.Byte(6) != 77 || a.Byte(7) != 7 || a.Text() != 7 {
		t.Error("P16.4: pushed where something was popped")
	}
}

// TestPopGivesRoom: the units' start goes down again as far as the text leaves room.
func TestPopGivesRoom(t *testing.T) {
	p := full(t, 2048)
	if p.single() {
		t.Fatal("P16.3: a unit of 1 byte")
	}
	for range 11 {
		p.do(call{kind: pop})
	}
	if p.single() {
		t.Error("P16.3: a unit of 12 bytes, of which there are to be more")
	}
	p.do(call{kind: pop})
	if !p.single() {
		t.Error("P16.3: no unit of 13 bytes")
	}
	p.apart()
}

// TestPopOfNothing: the text's end is one less each time; no block comes to lie ahead of the arena, and no byte.
func TestPopOfNothing(t *testing.T) {
	a := made(t, 2048)
	for range 500 {
		a.Pop()
	}
	if a.Text() != -499 {
		t.Errorf("P16.4: the text ends at %d", a.Text())
	}
	for range 147 {
		a.One()
	}
	least := 2048
	for range 100 {
		if x := a.One(); x != 0 {
			least = min(least, x)
		}
	}
	if least != 285-23*unit {
		t.Errorf("P16.5: the first block lies at %d", least)
	}
	for range 499 {
		if !a.Push('x') || a.Byte(0) != 0 || a.Byte(1) != 0 {
			t.Fatal("P16.4: pushed ahead of the arena")
		}
	}
	if a.Text() != 0 || !a.Push('x') || a.Byte(0) != 0 || !a.Push('y') || a.Byte(1) != 'y' {
		t.Errorf("P16.4: the text ends at %d", a.Text())
	}
}

// TestBytesAtTheEdges: places are 1 to the size; beyond there is 0, and nothing is changed.
func TestBytesAtTheEdges(t *testing.T) {
	for _, size := range []int{2048, 2049, 1<<16 - 2, 1<<16 - 1, 1 << 16, 1<<16 + 1, 1<<17 - 1, 1 << 17} {
		a := made(t, size)
		for _, at := range append(far(), size+1, size+2, size+1<<16, -size) {
			a.SetByte(at, 9)
			a.SetNum(at, 1, 9)
			a.SetNum(at, 4, 0x09090909)
			if a.Byte(at) != 0 || a.Num(at, 1) != 0 || a.Num(at, 4) != 0 {
				t.Errorf("P16.4: of %d bytes: at %d: %d", size, at, a.Byte(at))
			}
		}
		for _, at := range []int{1, 2, 3, 4, size - 3, size - 2, size - 1, size} {
			if a.Byte(at) != 0 {
				t.Errorf("P16.4: of %d bytes: set beyond, %d is at %d", size, a.Byte(at), at)
			}
		}
		for at := 1; at <= size; at++ {
			a.SetByte(at, byte(at%255+1))
		}
		for at := 1; at <= size; at++ {
			if a.Byte(at) != byte(at%255+1) || a.Num(at, 1) != at%255+1 {
				t.Fatalf("P16.4: of %d bytes: at %d: %d", size, at, a.Byte(at))
			}
		}
	}
}

// TestNumbers: the least byte comes first; of a number its least bytes are put, and no others.
func TestNumbers(t *testing.T) {
	numbers := []int{0, 1, 255, 256, 0x1234, 0x12345678, 0x123456789a, 0x0102030405060708, math.MaxInt, math.MinInt, -1, -2, -256}
	for _, at := range []int{1, 2, 500, 2048 - 7, 1<<16 - 9, 1<<16 - 4, 1<<16 - 1, 1 << 16} {
		for size := 1; size <= 8; size++ {
			for _, v := range numbers {
				a := made(t, 1<<17)
				a.SetByte(at-1, 0xaa)
				a.SetByte(at+size, 0xbb)
				a.SetNum(at, size, v)
				want := v
				if size < 8 {
					want = v & (1<<(8*size) - 1)
				}
				if x := a.Num(at, size); x != want {
					t.Errorf("P16.4: %d bytes of %x at %d: %x", size, v, at, x)
				}
				for i := range size {
					if a.Byte(at+i) != byte(v>>(8*i)) {
						t.Errorf("P16.4: %d bytes of %x at %d: byte %d is %x", size, v, at, i, a.Byte(at+i))
					}
				}
				if at > 1 && a.Byte(at-1) != 0xaa || a.Byte(at+size) != 0xbb {
					t.Errorf("P16.4: %d bytes of %x at %d: others are changed", size, v, at)
				}
			}
		}
	}
}

// TestNumbersOfNoSize: of no bytes, or of fewer, it is 0, and nothing is changed; so it is where not all of its bytes are in the arena.
func TestNumbersOfNoSize(t *testing.T) {
	a := made(t, 2048)
	for at := 1; at <= 2048; at++ {
		a.SetByte(at, byte(at%255+1))
	}
	check := func(at, size int) {
		t.Helper()
		a.SetNum(at, size, -1)
		a.SetNum(at, size, 0)
		if x := a.Num(at, size); x != 0 {
			t.Errorf("P16.4: %d bytes at %d: %d", size, at, x)
		}
	}
	for _, size := range far() {
		for _, at := range []int{1, 2, 1000, 2047, 2048} {
			check(at, size)
		}
	}
	for _, x := range [][2]int{{2048, 2}, {2047, 3}, {2045, 8}, {2042, 8}, {1, 2049}, {2, 2048}, {0, 4}, {-2, 4}, {-2047, 4096}, {math.MaxInt, math.MaxInt}, {math.MinInt, math.MaxInt}} {
		check(x[0], x[1])
	}
	for at := 1; at <= 2048; at++ {
		if a.Byte(at) != byte(at%255+1) {
			t.Fatalf("P16.4: at %d: %d", at, a.Byte(at))
		}
	}
	for _, x := range [][2]int{{2048, 1}, {2047, 2}, {2045, 4}, {2041, 8}, {1, 8}} {
		a.SetNum(x[0], x[1], 77)
		if a.Num(x[0], x[1]) != 77 {
			t.Errorf("P16.4: %d bytes at %d", x[1], x[0])
		}
	}
}

// TestLongNumbers: of more bytes than an int has, those behind tell the sign alone, and nothing when they are read.
func TestLongNumbers(t *testing.T) {
	for _, size := range []int{9, 12, 100, 2048} {
		for _, v := range []int{5, math.MaxInt, -5, math.MinInt} {
			a := made(t, 2048)
			a.SetNum(1, size, v)
			sign := byte(0)
			if v < 0 {
				sign = 255
			}
			if a.Num(1, size) != v || a.Num(1, 8) != v || a.Byte(9) != sign || a.Byte(size) != sign || a.Byte(size+1) != 0 {
				t.Errorf("P16.4: %d bytes of %d: %d", size, v, a.Num(1, size))
			}
		}
	}
}

// TestMove: units' bytes are copied, wherever they lie to one another, and no others.
func TestMove(t *testing.T) {
	r := rand.New(rand.NewSource(4))
	for _, size := range []int{2048, 1<<16 + 900} {
		for range 300 {
			p := newPair(t, size)
			base := size - 2047
			for at := base; at <= size; at++ {
				x := byte(r.Intn(256))
				p.a.SetByte(at, x)
				p.m.set(at, x)
			}
			n := r.Intn(60)
			to, from := base+r.Intn(2048-n*unit), base+r.Intn(2048-n*unit)
			if r.Intn(2) == 0 { // likely to overlap
				to = max(base, min(from+r.Intn(41)-20, size+1-n*unit))
			}
			p.a.Move(to, from, n)
			p.m.move(to, from, n)
			for at := base; at <= size; at++ {
				if p.a.Byte(at) != p.m.bytes[at] {
					t.Fatalf("P16.4: %d units from %d to %d: %d at %d", n, from, to, p.a.Byte(at), at)
				}
			}
		}
	}
}

// TestMoveBeyond: where not all units lie in the arena, and of numbers that are none, nothing is copied.
func TestMoveBeyond(t *testing.T) {
	a := made(t, 2048)
	for at := 1; at <= 2048; at++ {
		a.SetByte(at, byte(at%255+1))
	}
	for _, n := range append(far(), 1<<62+2, 171, -1<<62+2) {
		a.Move(1, 1025, n)
		a.Move(1025, 1, n)
	}
	for _, at := range append(far(), 2038, 2048, 2049) {
		a.Move(at, 100, 1)
		a.Move(100, at, 1)
	}
	a.Move(1, 1025, 86)
	a.Move(1025, 1, 86)
	for at := 1; at <= 2048; at++ {
		if a.Byte(at) != byte(at%255+1) {
			t.Fatalf("P16.4: at %d: %d", at, a.Byte(at))
		}
	}
	a.Move(1, 2037, 1)
	a.Move(1000, 1, 1)
	if a.Byte(12) != byte(2048%255+1) || a.Byte(1011) != a.Byte(12) || a.Byte(13) != 14 {
		t.Error("P16.4: the last unit isn't copied to the first places")
	}
}

// TestMoveOfAll: as many units as an arena has room for.
func TestMoveOfAll(t *testing.T) {
	for _, size := range []int{2048, 2052, 2055} {
		a := made(t, size)
		for at := 1; at <= size; at++ {
			a.SetByte(at, byte(at%251+1))
		}
		n := size / unit
		rest := size - n*unit
		a.Move(1, 1+rest, n)
		for at := 1; at <= n*unit; at++ {
			if a.Byte(at) != byte((at+rest)%251+1) {
				t.Fatalf("P16.4: of %d bytes: at %d: %d", size, at, a.Byte(at))
			}
		}
		a.Move(1+rest, 1, n)
		if a.Byte(size) != byte(size%251+1) || a.Byte(1+rest) != byte((1+rest)%251+1) {
			t.Errorf("P16.4: of %d bytes: %d is at the end", size, a.Byte(size))
		}
	}
}

// TestMoveOfNothing: bytes that nothing came to are 0 when they are copied.
func TestMoveOfNothing(t *testing.T) {
	a := made(t, 1<<20)
	a.SetNum(1<<19, 8, -1)
	a.Move(1<<19, 100, 1)
	if a.Num(1<<19, 8) != 0 {
		t.Error("P16.4: bytes that are 0 weren't copied")
	}
}
