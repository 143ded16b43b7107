package lzmac_test

import (
	"bytes"
	"math"
	"math/rand"
	"testing"

	"garbler/api"
	"garbler/lzmac"
)

// TestReset: with a setting of fewer or of more probabilities, the coder is as a new one that was told as much; its dictionary stays.
func TestReset(t *testing.T) {
	for seed := range int64(300) {
		r := rand.New(rand.NewSource(seed))
		p, q := lesser(r), lesser(r)
		c, m := made(t, p), newModel(p)
		for range r.Intn(60) {
			x := m.random(r)
			m.code(x)
			put(t, c, x)
		}
		c.Finish()
		c.Reset(q)
		if c.Reps() != [4]uint32{} || !bytes.Equal(c.Told(), m.all) || c.Count() != 5 {
			t.Fatalf("P9.3: seed %d: %v, %x, %d bytes behind Reset", seed, c.Reps(), c.Told(), c.Count())
		}
		fresh := newModel(api.Lzma{Lc: q.Lc, Lp: q.Lp, Pb: q.Pb, Dict: p.Dict})
		fresh.all = m.all
		for range r.Intn(60) {
			x := fresh.random(r)
			fresh.code(x)
			put(t, c, x)
		}
		if b, want := c.Finish(), fresh.finish(); !bytes.Equal(b, want) {
			t.Fatalf("P9.3: seed %d: %+v, then %+v: %x, not %x", seed, p, q, b, want)
		}
	}
}

// TestResetLeavesTheDictionary: which distances fit hangs on New's.
func TestResetLeavesTheDictionary(t *testing.T) {
	for _, was := range []int{4096, 5000, 9000} {
		for _, is := range []int{4096, 5000, 9000, math.MaxUint32} {
			c := made(t, api.Lzma{Lc: 3, Dict: was})
			c.Put(make([]byte, 10000))
			c.Reset(api.Lzma{Lc: 2, Lp: 2, Dict: is})
			fitting(t, c, match(2, uint32(was-1)), true)
			fitting(t, c, match(2, uint32(was)), false)
		}
	}
}

// TestResetByWrongSettings: nothing begins anew.
func TestResetByWrongSettings(t *testing.T) {
	for i, p := range wrongSettings() {
		r := rand.New(rand.NewSource(int64(i)))
		c, m := made(t, usual), newModel(usual)
		for k := range 60 {
			x := m.random(r)
			m.code(x)
			put(t, c, x)
			if k%7 == 0 {
				c.Reset(p)
			}
		}
		if c.Reps() != m.reps || !bytes.Equal(c.Told(), m.all) {
			t.Errorf("P9.3: %+v: %v, not %v; %x", p, c.Reps(), m.reps, c.Told())
		}
		if b, want := c.Finish(), m.finish(); !bytes.Equal(b, want) {
			t.Errorf("P9.3: %+v: %x, not %x", p, b, want)
		}
	}
}

// TestEmpty: nothing was told, the place is 0, and there is no byte ahead, nor one at a distance; all else stays.
func TestEmpty(t *testing.T) {
	p := api.Lzma{Lc: 4, Lp: 2, Pb: 4, Dict: 4096}
	for n := range 20 {
		c, m := made(t, p), newModel(p)
		list := listed(literals("abcdefghijklmnopqrstuvwxyz")[:5+n], match(3, 4), match(2, 1))
		put(t, c, list...)
		for _, x := range list {
			m.code(x)
		}
		c.Empty()
		m.all = nil
		if len(c.Told()) != 0 || c.Reps() != [4]uint32{1, 4} || c.Count() != m.c.Count() {
			t.Errorf("P9.3: %q, %v, %d bytes behind Empty", c.Told(), c.Reps(), c.Count())
		}
		for _, d := range []uint32{0, 1, 4} {
			fitting(t, c, match(2, d), false)
		}
		fitting(t, c, single(), false)
		for _, x := range listed("xyz", single(), "a", again(0, 3), match(4, 2)) {
			m.code(x)
			put(t, c, x)
		}
		if b, want := c.Finish(), m.finish(); string(c.Told()) != "xyzyayayyayy" || !bytes.Equal(b, want) {
			t.Errorf("P9.3: %q, not %q; %x, not %x", c.Told(), m.all, b, want)
		}
	}
}

// TestPut: bytes that no packet told are there as others are; they aren't coded, and state and distances stay.
func TestPut(t *testing.T) {
	p := api.Lzma{Lc: 4, Lp: 2, Pb: 4, Dict: 4096}
	for n := range 40 {
		c, m := made(t, p), newModel(p)
		for _, x := range listed("abc", match(2, 1)) {
			m.code(x)
			put(t, c, x)
		}
		more := bytes.Repeat([]byte("0123456789"), 4)[:n]
		count, reps := c.Count(), c.Reps()
		c.Put(more)
		m.all = append(m.all, more...)
		if c.Count() != count || c.Reps() != reps || string(c.Told()) != "abcbc"+string(more) {
			t.Errorf("P9.3: %d bytes, %v, %q behind Put", c.Count(), c.Reps(), c.Told())
		}
		for _, x := range listed("q", single(), match(n+2, uint32(n+4)), "r", again(1, 2)) {
			m.code(x)
			put(t, c, x)
		}
		if b, want := c.Finish(), m.finish(); !bytes.Equal(c.Told(), m.all) || !bytes.Equal(b, want) {
			t.Errorf("P9.3: %q, not %q; %x, not %x", c.Told(), m.all, b, want)
		}
	}
}

// TestAnyCallsAreAsTheModelSays: calls in any order, with packets that fit and that don't.
func TestAnyCallsAreAsTheModelSays(t *testing.T) {
	told := 0
	for seed := range int64(1500) {
		r := rand.New(rand.NewSource(seed))
		p := lesser(r)
		c, m := made(t, p), newModel(p)
		for i := range 120 {
			sameCall(t, r, c, m, seed, i)
			if c.Reps() != m.reps || c.Count() != m.c.Count() {
				t.Fatalf("P9.1: seed %d, call %d: %v, %d bytes; not %v, %d", seed, i, c.Reps(), c.Count(), m.reps, m.c.Count())
			}
		}
		if !bytes.Equal(c.Told(), m.all) {
			t.Fatalf("P9.1: seed %d: %x, not %x", seed, c.Told(), m.all)
		}
		told += len(m.all)
	}
	if told < 500000 {
		t.Errorf("just %d bytes were told", told)
	}
}

// sameCall makes one call of a coder, and of its model. (Behind an end mark it is finished ahead of a Reset.)
func sameCall(t *testing.T, r *rand.Rand, c *lzmac.Coder, m *model, seed int64, i int) {
	t.Helper()
	finish := func() {
		n := c.Count()
		if b, want := c.Finish(), m.finish(); !bytes.Equal(b, want) || len(b) != n {
			t.Fatalf("P9.2: seed %d, call %d: %x, not %x; %d bytes", seed, i, b, want, n)
		}
	}
	code := func(x api.Packet) {
		want := m.code(x)
		if fits := c.Fits(x); fits != want && x.Kind != api.End || c.Code(x) != want {
			t.Fatalf("P9.1: seed %d, call %d: %+v fits: %v", seed, i, x, fits)
		}
	}
	switch k := r.Intn(400); {
	case k < 10:
		finish()
	case k < 14:
		code(end())
	case k < 20:
		b := make([]byte, r.Intn(1<<r.Intn(14)))
		r.Read(b)
		c.Put(b)
		m.all = append(m.all, b...)
	case k < 24:
		if m.ended {
			finish()
		}
		q := lesser(r)
		c.Reset(q)
		m.reset(q)
	case k < 28:
		c.Empty()
		m.all = nil
	case k < 30:
		if told := c.Told(); !bytes.Equal(told, m.all) {
			t.Fatalf("P9.1: seed %d, call %d: %x, not %x", seed, i, told, m.all)
		}
	case k < 100:
		code(m.wild(r))
	default:
		code(m.random(r))
	}
}
