package arena_test

import (
	"testing"
)

// full is a pair in which all is given out, by blocks of the sizes for those numbers of units, and units behind them.
func full(t *testing.T, size int, blocks ...int) *pair {
	t.Helper()
	p := newPair(t, size)
	p.fillText(1)
	for _, n := range blocks {
		if !p.get(n) {
			t.Fatalf("there is no room for %v", blocks)
		}
	}
	for p.m.low != p.m.high {
		p.single()
	}
	return p
}

// orders: three orders in which blocks may be freed: as they are, from the last one on, and from both ends in turn.
func orders(b []block) [][]block {
	var back, turn []block
	for i := range b {
		back = append(back, b[len(b)-1-i])
		if i%2 == 0 {
			turn = append(turn, b[i/2])
		} else {
			turn = append(turn, b[len(b)-1-i/2])
		}
	}
	return [][]block{b, back, turn}
}

// TestGluedUnits: of some units that lie in a row each choice is freed, in three orders; then a block is asked for, and all that is left.
func TestGluedUnits(t *testing.T) {
	for choice := range 1 << 9 {
		for turn := range 3 {
			var chosen []block
			p := full(t, 2048)
			for i := range 9 {
				if choice>>i&1 == 1 {
					chosen = append(chosen, p.given[i])
				}
			}
			p.back(orders(chosen)[turn]...)
			p.do(call{kind: units, n: 2 + (choice+turn)%9})
			p.drain(choice%2 == 0)
		}
	}
}

// TestGluedBlocks: likewise of blocks of several sizes.
func TestGluedBlocks(t *testing.T) {
	for choice := range 1 << 8 {
		for turn := range 3 {
			var chosen []block
			p := full(t, 4096, 4, 15, 1, 128, 2, 28, 3, 10)
			for i, b := range p.given[:8] {
				if choice>>i&1 == 1 {
					chosen = append(chosen, b)
				}
			}
			p.back(orders(chosen)[turn]...)
			p.do(call{kind: units, n: 1 + (choice*5+turn*43)%128})
			p.drain(choice%2 == 0)
			p.apart()
		}
	}
}

// TestGlueExample: three units side by side and two beyond a gap: 3 and 2; a block for 3 is at the first.
func TestGlueExample(t *testing.T) {
	p := full(t, 2048)
	first := 2049 - 10*unit
	for _, i := range []int{0, 2, 1, 4, 5} { // 3 was given out, and stays so
		p.do(call{kind: free, at: first + i*unit, n: 1})
	}
	if x := p.do(call{kind: units, n: 3}); x != first {
		t.Errorf("P16.2: 3 units: %d, not %d", x, first)
	}
	if x := p.do(call{kind: units, n: 2}); x != first+4*unit {
		t.Errorf("P16.2: 2 units: %d, not %d", x, first+4*unit)
	}
	if x := p.do(call{kind: one}); x != 0 {
		t.Errorf("P16.3: one more unit: %d", x)
	}
}

// TestGluedOverTheGreatestSize: 300 units side by side are 128, 128, 44; 155 are 128, 24 and 3.
func TestGluedOverTheGreatestSize(t *testing.T) {
	for _, count := range []int{127, 128, 129, 131, 155, 156, 157, 255, 256, 257, 300, 384, 385} {
		for turn := range 3 {
			p := full(t, 1<<13)
			p.back(orders(p.given[100 : 100+count])[turn]...)
			p.get(128)
			p.drain(turn == 1)
			p.apart()
		}
	}
}

// TestTooLongToGlue: blocks side by side that have 65536 units together aren't one; with one unit fewer they are.
func TestTooLongToGlue(t *testing.T) {
	for _, last := range []int{120, 124, 128} {
		for _, single := range []int{1, 3, 4, 8} {
			for turn := range 3 {
				blocks := make([]int, 511, 520) // of 65408 units
				for i := range blocks {
					blocks[i] = 128
				}
				blocks = append(blocks, last, single, 2, 2, 128, 4)
				p := full(t, 920000, blocks...)
				p.back(orders(p.given[:len(blocks)])[turn]...)
				p.get(100) // of which there is none till blocks are glued
				p.drain(single%2 == 0)
			}
		}
	}
}

// TestFirstTooLongThenShort: where one can't be taken in for its length, it takes in itself what lies behind.
func TestFirstTooLongThenShort(t *testing.T) {
	blocks := make([]int, 1200)
	for i := range blocks {
		blocks[i] = 128 - 4*(i%3)
	}
	for turn := range 3 {
		p := full(t, 1<<21, blocks...)
		p.back(orders(p.given[:len(blocks)])[turn]...)
		p.get(1)
		p.drain(turn == 0)
		p.apart()
	}
}

// TestTimesTillGlued: behind a gluing 255 askings in vain, the gluing's own among them, are due till the next one.
func TestTimesTillGlued(t *testing.T) {
	for vain := 250; vain <= 260; vain++ {
		p := full(t, 2048)
		for range vain {
			if p.get(128) {
				t.Fatal("P16.2: a block of nothing")
			}
		}
		p.back(p.given[3:5]...)
		if got := p.get(2); got != (vain == 255) {
			t.Errorf("P16.2: %d askings in vain: glued: %v", vain, got)
		}
	}
}

// TestWhatIsPartedIsNotInVain: a block that is parted leaves glue as it is; the units' start that goes down makes it one less.
func TestWhatIsPartedIsNotInVain(t *testing.T) {
	twos := make([]int, 40)
	for i := range twos {
		twos[i] = 2
	}
	for _, parted := range []int{0, 1, 40} {
		for _, lower := range []int{0, 1, 20} {
			for vain := 254; vain <= 256; vain++ {
				p := full(t, 4096, twos...)
				singles := p.given[60:62]
				p.get(128) // glues
				for _, b := range p.given[:parted] {
					p.do(call{kind: free, at: b.at, n: 2})
					if x, y := p.do(call{kind: one}), p.do(call{kind: one}); x != b.at || y != b.at+unit {
						t.Fatalf("P16.3: of two units at %d: %d, %d", b.at, x, y)
					}
				}
				for range lower * unit {
					p.do(call{kind: pop})
				}
				for range lower {
					p.single()
				}
				for range vain - 1 - lower {
					p.get(128)
				}
				p.back(singles...)
				if got := p.get(2); got != (vain == 255) {
					t.Errorf("P16.2: %d parted, %d from ahead, %d in all but those in vain: glued: %v", parted, lower, vain, got)
				}
			}
		}
	}
}

// TestGluedThenTheSameSize: if gluing brings a block of just that size, no greater one is parted.
func TestGluedThenTheSameSize(t *testing.T) {
	p := full(t, 2048, 28, 1, 1, 1)
	great, least := p.given[0], p.given[2]
	p.back(great, p.given[3], least)
	if x := p.do(call{kind: units, n: 2}); x != least.at {
		t.Errorf("P16.2: 2 units: %d, not %d", x, least.at)
	}
	if x := p.do(call{kind: units, n: 28}); x != great.at {
		t.Errorf("P16.2: 28 units: %d, not %d", x, great.at)
	}
}

// TestGluedEmpty: rows are empty behind a gluing, but for what is laid into them then.
func TestGluedEmpty(t *testing.T) {
	p := full(t, 2048)
	p.back(p.given[:2]...)
	if !p.get(2) || p.single() || p.get(1) {
		t.Error("P16.2: a unit that was glued is given out twice")
	}
}
