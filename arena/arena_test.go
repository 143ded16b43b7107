package arena_test

import (
	"math"
	"testing"

	"garbler/api"
	"garbler/arena"
	"garbler/meter"
)

// far: numbers that are no places, nor of units; times a unit's bytes, some of them would wrap to such.
func far() []int {
	return []int{math.MinInt, math.MinInt + 1, -1 << 62, -1<<62 + 1, math.MinInt32, -13, -12, -1, 0, 1 << 32, 1<<32 + 1, 1<<62 + 1, math.MaxInt - 12, math.MaxInt - 1, math.MaxInt}
}

func TestExamples(t *testing.T) {
	a := made(t, 2048)
	if x := a.One(); x != 2037 {
		t.Errorf("P16.3: One: %d", x)
	}
	if x, y := a.Units(2), a.Units(5); x != 285 || y != 309 {
		t.Errorf("P16.2: Units: %d, %d", x, y)
	}
	if x := a.Units(1); x != 309+6*unit {
		t.Errorf("P16.2: behind a block for 5 units: %d", x)
	}
}

// TestSizesThatMayBe: the least and the greatest arena, and their neighbours.
func TestSizesThatMayBe(t *testing.T) {
	for _, size := range append(far(), 1, 12, 2047, 1<<32-36, 1<<32-1) {
		m := meter.New(api.Quota{Mem: math.MaxInt})
		if a, code := arena.New(size, m); a != nil || code != api.Props || m.Used() != (api.Used{}) || m.Code() != api.OK {
			t.Errorf("P16.1: of %d bytes: %v, code %d, used %+v", size, a, code, m.Used())
		}
	}
	for _, size := range []int{2048, 2049, 1 << 20, 1 << 30, 1<<32 - 38, 1<<32 - 37} {
		m := meter.New(api.Quota{Mem: size + 12})
		a, code := arena.New(size, m)
		if a == nil || code != api.OK || m.Used() != (api.Used{Mem: size + 12, Peak: size + 12}) {
			t.Fatalf("P16.1: of %d bytes: code %d, used %+v", size, code, m.Used())
		}
		a.Close()
		if a, code := arena.New(size+1, meter.New(api.Quota{Mem: size + 12})); a != nil || code == api.OK {
			t.Errorf("P16.1: of %d bytes, of which there are 1 too few: code %d", size+1, code)
		}
	}
}

// TestMeterWithTooLittle: nothing is used then; a meter that is spent tells its own code, but behind Props.
func TestMeterWithTooLittle(t *testing.T) {
	for _, quota := range []int{0, 12, 2048, 2059} {
		m := meter.New(api.Quota{Mem: quota})
		if a, code := arena.New(2048, m); a != nil || code != api.QMem || m.Used() != (api.Used{}) {
			t.Errorf("P16.1: 2048 bytes of %d: code %d, used %+v", quota, code, m.Used())
		}
	}
	spend := []func(m *meter.Meter) bool{
		func(m *meter.Meter) bool { return m.Out(1) },
		func(m *meter.Meter) bool { return m.File() },
		func(m *meter.Meter) bool { return m.Down() },
		func(m *meter.Meter) bool { return m.Step(1) },
		func(m *meter.Meter) bool { return m.Mem(5001) },
	}
	for i, want := range []api.Code{api.QOut, api.QFiles, api.QDepth, api.QSteps, api.QMem} {
		m := meter.New(api.Quota{Mem: 5000})
		spend[i](m)
		if a, code := arena.New(2048, m); a != nil || code != want {
			t.Errorf("P16.1: spent by %d: code %d", want, code)
		}
		if a, code := arena.New(2047, m); a != nil || code != api.Props {
			t.Errorf("P16.1: spent by %d, of 2047 bytes: code %d", want, code)
		}
	}
}

// TestBeginning: where the text, the blocks and the units begin, for sizes about wholes of 96.
func TestBeginning(t *testing.T) {
	sizes := []int{1 << 12, 1 << 16, 1<<16 + 1, 1 << 24, 1<<32 - 37}
	for size := 2048; size < 2048+200; size++ {
		sizes = append(sizes, size)
	}
	for _, size := range sizes {
		a := made(t, size)
		u := size / 96 * 84
		if x, y := a.Units(1), a.One(); x != size+1-u || y != size+1-unit || a.Text() != 1 {
			t.Errorf("P16.1: of %d bytes: low %d, a unit at %d, the text ends at %d", size, x, y, a.Text())
		}
		a.Close()
	}
}

// TestBytesAreNought: at New all are 0, and again in the next arena of a meter.
func TestBytesAreNought(t *testing.T) {
	m := meter.New(api.Quota{Mem: 5000})
	for range 3 {
		a, _ := arena.New(4000, m)
		for at := range 4002 {
			if a.Byte(at) != 0 {
				t.Fatalf("P16.1: at %d: %d", at, a.Byte(at))
			}
			a.SetByte(at, 7)
		}
		a.Close()
	}
}

// TestRestart: the arena is as at its beginning, wherever it was, but for its bytes.
func TestRestart(t *testing.T) {
	for _, down := range []bool{false, true} {
		p := newPair(t, 3000)
		for p.single() {
			p.do(call{kind: push, n: 9})
		}
		for i := 0; i < len(p.given); i += 2 {
			p.giveBack(i)
		}
		for at := 1; at <= 3000; at++ {
			p.a.SetByte(at, byte(at))
			p.m.set(at, byte(at))
		}
		p.do(call{kind: restart})
		p.given = nil
		p.sameBytes()
		if x := p.a.Text(); x != 1 {
			t.Errorf("P16.1: the text ends at %d", x)
		}
		p.drain(down)
		p.apart()
		p.sameBytes()
	}
}

// TestRestartGluesAtOnce: glue is 0 again, so that what is free side by side is one at the first asking.
func TestRestartGluesAtOnce(t *testing.T) {
	p := newPair(t, 2048)
	for range 2 {
		p.given = nil
		p.fillText(1)
		for p.single() {
		}
		p.giveBack(4)
		p.giveBack(4)
		if p.get(2) {
			t.Fatal("P16.2: blocks are glued though glue isn't 0")
		}
		p.do(call{kind: restart})
		p.given = nil
		p.fillText(1)
		for range 147 {
			p.single()
		}
		p.giveBack(4)
		p.giveBack(4)
		if !p.get(2) {
			t.Fatal("P16.1: two units side by side aren't glued behind Restart")
		}
		p.do(call{kind: restart})
	}
}

// TestClose: the memory is given back, once, and not that of others; nothing is given out, and nothing is there.
func TestClose(t *testing.T) {
	m := meter.New(api.Quota{Mem: 10000})
	m.Mem(1000)
	a, _ := arena.New(2048, m)
	at, room := a.Units(4), a.Units(9)
	a.Free(a.One(), 1)
	a.Push('x')
	a.Push('y')
	a.SetNum(at, 4, -1)
	end := a.Text()
	for range 3 {
		a.Close()
		if u := m.Used(); u.Mem != 1000 || u.Peak != 3060 || m.Code() != api.OK {
			t.Fatalf("P16.1: closed: used %+v", u)
		}
		closed(t, a, at)
		a.Free(at, 4)
		a.Free(room, 9)
		a.Move(at, room, 1)
		closed(t, a, at)
		if a.Text() != end {
			t.Errorf("P16.4: closed: the text ends at %d, not %d", a.Text(), end)
		}
		a.Restart()
		a.Pop()
		closed(t, a, at)
	}
	if other, code := arena.New(9000-12, m); other == nil || code != api.OK {
		t.Errorf("P16.1: what was given back isn't there again: code %d", code)
	}
}

// closed: nothing is given out, and nothing is there.
func closed(t *testing.T, a *arena.Arena, at int) {
	t.Helper()
	for range 2 {
		if x, y, z := a.Units(1), a.Units(128), a.One(); x != 0 || y != 0 || z != 0 {
			t.Errorf("P16.1: closed: %d, %d, %d are given out", x, y, z)
		}
		if x, y := a.Shrink(at, 4, 2), a.Shrink(at, 4, 4); x != 0 || y != 0 {
			t.Errorf("P16.1: closed: shrunk to %d, %d", x, y)
		}
		if a.Push('z') {
			t.Error("P16.1: closed: there is room for a byte")
		}
		a.SetByte(at, 5)
		a.SetNum(at, 2, 5)
		for _, place := range []int{0, 1, 2, at, at + 1, 2048} {
			if a.Byte(place) != 0 || a.Num(place, 1) != 0 || a.Num(place, 0) != 0 {
				t.Errorf("P16.1: closed: at %d: %d", place, a.Byte(place))
			}
		}
	}
}

// TestCloseWithASpentMeter: the memory is given back to it, too.
func TestCloseWithASpentMeter(t *testing.T) {
	m := meter.New(api.Quota{Mem: 3000})
	a, _ := arena.New(2500, m)
	m.Mem(600)
	if at := a.Units(3); at == 0 || !a.Push('a') {
		t.Error("P16.2: an arena whose meter is spent gives nothing out")
	}
	a.Close()
	if m.Used() != (api.Used{Peak: 2512}) || m.Code() != api.QMem {
		t.Errorf("P16.1: used %+v, code %d", m.Used(), m.Code())
	}
}

// TestTwoArenas: what one is given doesn't matter to the other, nor does its end.
func TestTwoArenas(t *testing.T) {
	m := meter.New(api.Quota{Mem: 2060 + 2112})
	a, _ := arena.New(2048, m)
	b, _ := arena.New(2100, m)
	x, y := a.Units(4), b.Units(4)
	a.SetNum(x, 4, 1)
	b.SetNum(y, 4, 2)
	a.Free(x, 4)
	a.Push('a')
	if b.Num(y, 4) != 2 || b.Text() != 1 || b.Units(4) != y+4*unit {
		t.Error("P16.2: an arena hangs on another one")
	}
	a.Close()
	if b.Num(y, 4) != 2 || m.Used().Mem != 2112 {
		t.Errorf("P16.1: used %+v", m.Used())
	}
}

// TestDeclaredSizes: the greatest arena costs as much as comes to it, but of the meter.
func TestDeclaredSizes(t *testing.T) {
	arenas := make([]*arena.Arena, 100)
	for i := range arenas {
		arenas[i] = made(t, api.GreatestArena)
	}
	for _, a := range arenas {
		x, y := a.Units(128), a.One()
		a.SetNum(x, 8, 1<<60+1)
		a.SetNum(y, 4, 77)
		a.Push('a')
		a.Move(x+unit, y, 1)
		if a.Num(x, 8) != 1<<60+1 || a.Num(y, 4) != 77 || a.Num(x+unit, 4) != 77 || a.Byte(1) != 'a' || a.Byte(1<<31) != 0 {
			t.Fatal("P16.4: bytes of the greatest arena")
		}
	}
}
