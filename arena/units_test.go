package arena_test

import (
	"math/rand"
	"testing"
)

// TestSizesOfBlocks: two blocks for n units lie as far apart as the least size has that is n at least.
func TestSizesOfBlocks(t *testing.T) {
	if s := modelSizes; len(s) != 38 || s[37] != 128 {
		t.Fatalf("the model has the sizes %v", s)
	}
	for n := 1; n <= 128; n++ {
		a := made(t, 1<<14)
		x, y := a.Units(n), a.Units(n)
		if y-x != modelSize(n)*unit {
			t.Errorf("P16.2: blocks for %d units lie %d bytes apart", n, y-x)
		}
		a.Free(x, n)
		for k := modelSize(n - 1); n > 1 && k < n && k > modelSize(k-1); k-- {
			if k != modelSize(n) && a.Units(k) == x {
				t.Errorf("P16.3: a block for %d units came to the row of %d", n, k)
			}
		}
		if z := a.Units(modelSize(n)); z != x {
			t.Errorf("P16.3: a block for %d units didn't come to its row: %d", n, z)
		}
	}
}

// TestNumbersOfUnitsThatAreNone: 0, and nothing is changed by them.
func TestNumbersOfUnitsThatAreNone(t *testing.T) {
	p := newPair(t, 2048)
	for _, n := range append(far(), 129, 130, 256, 1<<16) {
		if x := p.a.Units(n); x != 0 {
			t.Errorf("P16.2: for %d units: %d", n, x)
		}
		p.get(1)
	}
	p.fillText(1)
	for _, n := range append(far(), 129, 130) { // each that was looked for in vain would make glue less
		p.a.Units(n)
	}
	p.drain(true)
}

// TestFrontOfTheRow: what came last is given out first, as long as there is one, whatever is left from low to high.
func TestFrontOfTheRow(t *testing.T) {
	for _, n := range modelSizes {
		p := newPair(t, 1<<15)
		for range 5 {
			p.get(n)
		}
		all := append([]block(nil), p.given...)
		for _, i := range []int{2, 0, 4, 1} {
			p.do(call{kind: free, at: all[i].at, n: n})
		}
		for _, i := range []int{1, 4, 0, 2} {
			if x := p.do(call{kind: units, n: n}); x != all[i].at {
				t.Errorf("P16.5: %d units: %d, not %d", n, x, all[i].at)
			}
		}
		p.get(n)
		p.apart()
	}
}

// TestFromLowToHigh: as many bytes as a block has are enough, one unit fewer isn't.
func TestFromLowToHigh(t *testing.T) {
	for _, n := range modelSizes {
		for room := n - 1; room <= n+1; room++ {
			p := newPair(t, 2048)
			p.fillText(1)
			for range 147 - room {
				p.single()
			}
			if got := p.get(n); got != (room >= n) {
				t.Errorf("P16.2: %d units of %d that are left: %v", n, room, got)
			}
			p.apart()
			p.drain(true)
		}
	}
}

// TestOneFromBehind: units come from high down to low, ahead of those that are free.
func TestOneFromBehind(t *testing.T) {
	p := newPair(t, 2048)
	p.get(3)
	for i := range 144 {
		if x := p.a.One(); x != 2049-(i+1)*unit {
			t.Fatalf("P16.3: unit %d: %d", i, x)
		}
		p.m.one()
		p.do(call{kind: free, at: 2049 - (i+1)*unit, n: 1})
	}
	for i := 143; i >= 0; i-- { // the one that came last is the front now
		if x := p.do(call{kind: one}); x != 2049-(i+1)*unit {
			t.Fatalf("P16.3: unit %d again: %d", i, x)
		}
	}
	p.single()
}

// TestOneThatIsParted: without a unit the next greater block that is free has one.
func TestOneThatIsParted(t *testing.T) {
	for _, n := range modelSizes[1:] {
		p := newPair(t, 1<<14)
		p.get(n)
		p.fillText(1)
		for p.m.low != p.m.high {
			p.single()
		}
		p.giveBack(0)
		at := p.m.rows[n][0]
		if x := p.do(call{kind: one}); x != at {
			t.Errorf("P16.3: of a block for %d units at %d: a unit at %d", n, at, x)
		}
		p.drain(false)
	}
}

// TestParted: of each size, each lesser one is wanted; the rest lies in the rows as is said, by what is given out next.
func TestParted(t *testing.T) {
	sizes := modelSizes
	for i, n := range sizes {
		for j, less := range sizes[:i] {
			for _, twice := range []bool{false, true} {
				p := newPair(t, 1<<13)
				p.get(n)
				p.get(n)
				p.fillText(1)
				for p.m.low != p.m.high {
					p.single()
				}
				if twice {
					p.giveBack(1)
				}
				p.giveBack(0)
				p.get(less)
				p.drain((i+j)%2 == 0)
				p.apart()
			}
		}
	}
}

// TestRestThatIsNoSize: 28 units less 1 are 27: 24, and behind them 3; which of them come to rows that aren't empty first is told by the front.
func TestRestThatIsNoSize(t *testing.T) {
	a := made(t, 2048)
	for range 283 {
		a.Push('x')
	}
	x := a.Units(28)
	for a.One() > x+28*unit {
	}
	a.Free(x, 28)
	if y := a.Units(1); y != x {
		t.Fatalf("P16.2: a unit of a block at %d: %d", x, y)
	}
	if y := a.Units(3); y != x+25*unit {
		t.Errorf("P16.2: 3 units: %d, not %d", y, x+25*unit)
	}
	if y := a.Units(24); y != x+unit {
		t.Errorf("P16.2: 24 units: %d, not %d", y, x+unit)
	}
}

// TestNextGreater: of blocks of two greater sizes the lesser one is parted.
func TestNextGreater(t *testing.T) {
	sizes := modelSizes
	for i := range sizes {
		for j := i + 1; j < len(sizes); j++ {
			for _, k := range []int{j + 1, j + 2, len(sizes) - 1} {
				if k <= j || k >= len(sizes) {
					continue
				}
				p := newPair(t, 1<<13)
				p.get(sizes[k])
				p.get(1) // else they would be glued
				p.get(sizes[j])
				p.fillText(1)
				for p.m.low != p.m.high {
					p.single()
				}
				want := p.given[2].at
				p.giveBack(2)
				p.giveBack(0)
				if x := p.do(call{kind: units, n: sizes[i]}); x != want {
					t.Errorf("P16.2: %d units, of blocks of %d and %d: %d, not %d", sizes[i], sizes[j], sizes[k], x, want)
				}
			}
		}
	}
}

// TestUnitsStart: it goes down for a block if more bytes than it has lie behind the text, not if just as many do.
func TestUnitsStart(t *testing.T) {
	for _, n := range modelSizes {
		for more := -1; more <= 2; more++ {
			p := newPair(t, 1<<14)
			for p.m.low != p.m.high {
				p.single()
			}
			p.fillText(modelSize(n)*unit + more)
			before := p.m.start
			if x := p.a.Units(n); more <= 0 && x != 0 || more > 0 && x != before-n*unit {
				t.Errorf("P16.2: %d units, %d bytes more than they have: %d", n, more, x)
			}
			p.m.units(n)
			if more > 0 && p.do(call{kind: push}) != number(more > 1) {
				t.Errorf("P16.4: of %d bytes one is put", more)
			}
			p.drain(false)
		}
	}
}

// TestOneBelowTheUnitsStart: a unit, too, comes from behind the text, and goes on to.
func TestOneBelowTheUnitsStart(t *testing.T) {
	p := newPair(t, 2048)
	for range 147 + 23 {
		if !p.single() {
			t.Fatal("P16.3: no unit")
		}
	}
	if x := p.given[147].at; x != 285-unit {
		t.Errorf("P16.3: %d", x)
	}
	if p.single() {
		t.Error("P16.3: a unit where 8 bytes are left")
	}
	p.apart()
}

// TestShrink: of each number of units each lesser one, without and with a free block for it.
func TestShrink(t *testing.T) {
	for old := 1; old <= 128; old++ {
		for n := 1; n <= old; n++ {
			for _, is := range []bool{false, true} {
				p := newPair(t, 1<<13)
				p.get(old)
				p.get(n)
				for i := range old * unit {
					p.a.SetByte(p.given[0].at+i, byte(i+1))
					p.m.set(p.given[0].at+i, byte(i+1))
				}
				was, other := p.given[0].at, p.given[1].at
				want := was
				if is {
					p.giveBack(1)
					if modelSize(old) != modelSize(n) {
						want = other
					}
				}
				p.less(0, n)
				if p.given[0].at != want {
					t.Fatalf("P16.3: shrunk from %d to %d units: at %d, not %d", old, n, p.given[0].at, want)
				}
				for i := range n * unit {
					if p.a.Byte(want+i) != byte(i+1) {
						t.Fatalf("P16.3: shrunk from %d to %d units: byte %d is %d", old, n, i, p.a.Byte(want+i))
					}
				}
				if want == other && n < modelSize(n) && p.a.Byte(other+n*unit) != 0 {
					t.Fatalf("P16.3: shrunk from %d to %d units: more than %d were copied", old, n, n)
				}
				if (old+n)%5 == 0 {
					p.drain(is)
					p.apart()
				}
			}
		}
	}
}

// TestShrinkToNoBlock: of numbers that may not be 0, and nothing is changed by them.
func TestShrinkToNoBlock(t *testing.T) {
	p := newPair(t, 2048)
	p.get(8)
	at := p.given[0].at
	for _, n := range append(far(), 9, 128) {
		if x := p.a.Shrink(at, 8, n); x != 0 {
			t.Errorf("P16.3: shrunk from 8 to %d units: %d", n, x)
		}
	}
	for _, old := range append(far(), 129) {
		if x := p.a.Shrink(at, old, 1); x != 0 {
			t.Errorf("P16.3: shrunk from %d units to 1: %d", old, x)
		}
	}
	p.drain(true)
}

// TestBlocksThatAreNone: to free or to shrink what no arena gives out is answered, and nothing of it is given out.
func TestBlocksThatAreNone(t *testing.T) {
	p := newPair(t, 2048)
	for _, at := range append(far(), 2038, 2048, 2049) {
		for _, n := range append(far(), 1, 2, 128, 129) {
			p.a.Free(at, n)
			p.a.Shrink(at, n, 1)
			p.a.Shrink(at, n, n)
		}
	}
	for _, n := range append(far(), 129) {
		p.a.Free(285, n)
	}
	p.drain(false)
	p.apart()
}

// TestFreeTwice: an arena whose blocks were freed twice, or in pieces, goes on answering.
func TestFreeTwice(t *testing.T) {
	a := made(t, 2048)
	x := a.Units(128)
	for i := range 128 {
		a.Free(x+i*unit, 1)
		a.Free(x+i*unit, 1)
		a.Free(x, i+1)
		a.Free(x+i, 1)
	}
	for range 3 {
		for n := 1; n <= 128; n++ {
			for range 300 {
				if at := a.Units(n); at < 0 || at > 2048 {
					t.Fatalf("P16.2: %d", at)
				}
			}
		}
		a.One()
		a.Shrink(x, 128, 3)
	}
}

// TestBytesOfBlocks: blocks have the bytes that they had when they were freed, however they are glued and parted.
func TestBytesOfBlocks(t *testing.T) {
	p := newPair(t, 2048)
	p.fillText(1)
	for p.single() {
	}
	for at := 285; at <= 2048; at++ {
		p.a.SetByte(at, byte(at))
		p.m.set(at, byte(at))
	}
	for len(p.given) > 0 {
		p.giveBack(0)
	}
	p.drain(true)
	p.sameBytes()
}

// TestAnyCalls: whatever is called with whatever numbers, it is answered, and no block lies beyond the arena, nor do its bytes.
func TestAnyCalls(t *testing.T) {
	for seed := range int64(40) {
		r := rand.New(rand.NewSource(seed))
		a := made(t, 2048+r.Intn(3000))
		end := a.One() + unit
		wild := func() int {
			switch r.Intn(8) {
			case 0:
				return far()[r.Intn(len(far()))]
			case 1, 2:
				return r.Intn(140) - 5
			}
			return r.Intn(end + 10)
		}
		for range 3000 {
			at, n := 0, 1
			switch k := r.Intn(14); k {
			case 0, 1, 2:
				n = wild()
				at = a.Units(n)
			case 3:
				at = a.One()
			case 4, 5, 6:
				a.Free(wild(), wild())
			case 7, 8:
				old, less := wild(), wild()
				n = less
				at = a.Shrink(wild(), old, less)
			case 9:
				a.Push(byte(wild()))
			case 10:
				a.Pop()
			case 11:
				a.Move(wild(), wild(), wild())
			case 12:
				a.SetNum(wild(), wild()%9, wild())
			case 13:
				a.SetByte(a.Num(wild(), wild()%9), a.Byte(wild()))
			}
			if at < 0 || at != 0 && (block{at, n}).end() > end {
				t.Fatalf("P16.5: of %d bytes: for %d units: %d", end-1, n, at)
			}
		}
	}
}
