package arena_test

import (
	"math/rand"
	"testing"
)

// anyUnits: a number of units, mostly little.
func anyUnits(r *rand.Rand) int {
	if r.Intn(3) > 0 {
		return 1 + r.Intn(8)
	}
	return 1 + r.Intn(128)
}

// step: one call of a pair, at random; what was given out has other bytes then.
func (p *pair) step(r *rand.Rand) {
	p.t.Helper()
	got := false
	switch k := r.Intn(100); {
	case k < 25:
		got = p.get(anyUnits(r))
	case k < 50:
		got = p.single()
	case k < 75 && len(p.given) > 0:
		p.giveBack(r.Intn(len(p.given)))
	case k < 85 && len(p.given) > 0:
		i := r.Intn(len(p.given))
		p.less(i, 1+r.Intn(p.given[i].n))
	case k < 97 && p.m.text < p.m.start:
		p.do(call{kind: push, n: r.Intn(256)})
	case p.m.text > 1:
		p.do(call{kind: pop})
	}
	if got && r.Intn(4) == 0 {
		p.mark(p.given[len(p.given)-1], r)
	}
}

// TestRowsOfCallsAreAsTheModelSays: arenas of several sizes, which run full again and again.
func TestRowsOfCallsAreAsTheModelSays(t *testing.T) {
	for seed := range int64(300) {
		r := rand.New(rand.NewSource(seed))
		p := newPair(t, 2048+r.Intn(1<<(4+r.Intn(9))))
		for i := range 1500 {
			p.step(r)
			if i%500 == 99 {
				p.apart()
				p.sameBytes()
			}
			if r.Intn(700) == 0 {
				p.do(call{kind: restart})
				p.given = nil
			}
		}
		p.apart()
		p.drain(r.Intn(2) == 0)
		p.apart()
		p.sameBytes()
	}
}

// TestFullAndEmptyInTurn: blocks are given out till there are none, and most of them taken back in any order, again and again.
func TestFullAndEmptyInTurn(t *testing.T) {
	for seed := range int64(60) {
		r := rand.New(rand.NewSource(seed))
		p := newPair(t, 2048+r.Intn(1<<13))
		for range 12 {
			for most := anyUnits(r); ; {
				if !p.get(1+r.Intn(most)) && !p.single() {
					break
				}
			}
			p.apart()
			for range len(p.given) * (1 + r.Intn(9)) / 10 {
				p.giveBack(r.Intn(len(p.given)))
			}
			for range r.Intn(300) {
				p.do(call{kind: units, n: 128})
				p.get(1 + r.Intn(3))
			}
		}
	}
}

// TestTakenBackIsGivenOutFirst: the units' start doesn't go down for a size of which there is a free block.
func TestTakenBackIsGivenOutFirst(t *testing.T) {
	for _, n := range modelSizes {
		p := newPair(t, 1<<15)
		for p.m.low != p.m.high && p.get(n) {
		}
		for p.m.low != p.m.high {
			p.single()
		}
		count := len(p.given) / 2
		taken := map[int]bool{}
		for i := range count {
			if p.given[i].n == n {
				taken[p.given[i].at] = true
				p.do(call{kind: free, at: p.given[i].at, n: n})
			}
		}
		start := p.m.start
		for range len(taken) {
			at := p.do(call{kind: units, n: n})
			if !taken[at] {
				t.Fatalf("P16.5: %d units: %d, which was no free block", n, at)
			}
			delete(taken, at)
		}
		if at := p.do(call{kind: units, n: n}); at >= start {
			t.Errorf("P16.5: %d units: %d, which isn't ahead of the units' start, %d", n, at, start)
		}
	}
}
