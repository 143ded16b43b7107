package lzmac_test

import (
	"bytes"
	"math"
	"math/rand"
	"testing"

	"garbler/api"
	"garbler/lzmac"
)

func TestExamples(t *testing.T) {
	if b, told, code := lzmac.Pack(usual, nil); !bytes.Equal(b, make([]byte, 5)) || len(told) != 0 || code != api.OK {
		t.Errorf("P9.4: %x, %x, code %d", b, told, code)
	}
	if b, told, code := lzmac.Pack(usual, times(1, literal(0))); !bytes.Equal(b, make([]byte, 6)) || !bytes.Equal(told, []byte{0}) || code != api.OK {
		t.Errorf("P9.4: %x, %x, code %d", b, told, code)
	}
	if c := made(t, usual); c.Fits(single()) || c.Code(single()) {
		t.Error("P9.1: a short one fits first")
	}
}

// TestEachSettingBegins: with nothing told, distances 0, and a range coder that begins.
func TestEachSettingBegins(t *testing.T) {
	for _, dict := range []int{4096, math.MaxUint32} {
		for _, p := range settings(dict) {
			c := made(t, p)
			if c.Reps() != [4]uint32{} || len(c.Told()) != 0 || c.Count() != 5 {
				t.Errorf("P9.1: %+v: %v, %x, %d bytes", p, c.Reps(), c.Told(), c.Count())
			}
			if b := c.Finish(); !bytes.Equal(b, make([]byte, 5)) {
				t.Errorf("P9.2: %+v: %x", p, b)
			}
		}
	}
}

func TestWrongSettings(t *testing.T) {
	for _, p := range wrongSettings() {
		if c, code := lzmac.New(p); c != nil || code != api.Props {
			t.Errorf("P9.1: %+v: a coder, code %d", p, code)
		}
		for _, list := range [][]api.Packet{nil, literals("abc")} {
			if b, told, code := lzmac.Pack(p, list); len(b) != 0 || len(told) != 0 || code != api.Props {
				t.Errorf("P9.4: %+v: %x, %x, code %d", p, b, told, code)
			}
		}
	}
}

// fitting holds that a packet fits, or doesn't.
func fitting(t *testing.T, c *lzmac.Coder, x api.Packet, want bool) {
	t.Helper()
	if c.Fits(x) != want || c.Fits(x) != want {
		t.Errorf("P9.1: behind %d bytes, by distances %v, %+v fits: %v", len(c.Told()), c.Reps(), x, !want)
	}
}

// TestLengths: 2 to 273 fit, of those kinds that have one; of others it doesn't matter, nor does a distance.
func TestLengths(t *testing.T) {
	c := made(t, usual)
	put(t, c, literals("abcd")...)
	for _, n := range []int{math.MinInt, math.MinInt32, -2, -1, 0, 1, 2, 3, 100, 272, 273, 274, 275, 1<<16 + 2, 1 << 32, 1<<32 + 2, math.MaxInt} {
		may := n >= 2 && n <= 273
		fitting(t, c, match(n, 1), may)
		for which := range 4 {
			fitting(t, c, api.Packet{Kind: api.Again0 + which, Len: n, Dist: math.MaxUint32}, may)
		}
		for _, kind := range []int{api.Literal, api.Single, api.End} {
			fitting(t, c, api.Packet{Kind: kind, Len: n, Dist: uint32(n)}, true)
		}
	}
}

// TestDistances: the farthest byte that was told within the dictionary fits, the one beyond it doesn't; however the bytes were told.
func TestDistances(t *testing.T) {
	for _, dict := range []int{4096, 4097, 5000, 1 << 20, math.MaxUint32} {
		for _, n := range []int{0, 1, 2, 3, 4095, 4096, 4097, 4098, 4999, 5000, 5001, 9999} {
			p := api.Lzma{Dict: dict}
			one, two := made(t, p), made(t, p)
			one.Put(make([]byte, n))
			put(t, two, times(n, literal(1))...)
			for _, d := range []uint32{0, 1, 2, 4094, 4095, 4096, 4097, 4998, 4999, 5000, 9998, 9999, 1 << 31, math.MaxUint32 - 1, math.MaxUint32} {
				may := int(d) < dict && int(d) < n
				fitting(t, one, match(2, d), may)
				fitting(t, two, match(273, d), may)
			}
		}
	}
}

// TestElderDistances: each of them fits as soon as the byte at it is there.
func TestElderDistances(t *testing.T) {
	c := made(t, usual)
	for which := range 4 {
		fitting(t, c, again(which, 2), false)
	}
	put(t, c, literals("abcdefg")...)
	put(t, c, match(2, 6), match(2, 0), match(2, 4), match(2, 2))
	c.Empty()
	for n := range 9 {
		for which, d := range []int{2, 4, 0, 6} {
			fitting(t, c, again(which, 2), d < n)
			fitting(t, c, again(which, 273), d < n)
		}
		fitting(t, c, single(), 2 < n)
		put(t, c, literal('x'))
	}
}

// TestElderDistancesBehindAnEnd: the first one is the end mark's, at which no byte is; those behind it stay.
func TestElderDistancesBehindAnEnd(t *testing.T) {
	c := made(t, api.Lzma{Dict: math.MaxUint32})
	put(t, c, listed("abc", match(4, 2), end())...)
	c.Finish()
	if c.Reps() != [4]uint32{math.MaxUint32, 2} {
		t.Errorf("P9.2: %v behind an end mark", c.Reps())
	}
	fitting(t, c, single(), false)
	fitting(t, c, again(0, 2), false)
	for which := range 3 {
		fitting(t, c, again(1+which, 2), true)
	}
}

func TestOtherKinds(t *testing.T) {
	c := made(t, usual)
	put(t, c, literals("abc")...)
	for _, kind := range []int{math.MinInt, -256, -2, -1, 8, 9, 16, 256, 264, 1 << 32, 1<<32 + 1, math.MaxInt} {
		x := api.Packet{Kind: kind, Byte: 'x', Len: 2, Dist: 1}
		fitting(t, c, x, false)
		if c.Code(x) {
			t.Errorf("P9.1: kind %d is coded", kind)
		}
	}
	if string(c.Told()) != "abc" {
		t.Errorf("P9.1: %q", c.Told())
	}
}

// TestWhatDoesNotFit: it changes nothing, nor does asking whether a packet fits.
func TestWhatDoesNotFit(t *testing.T) {
	for seed := range int64(300) {
		r := rand.New(rand.NewSource(seed))
		p := lesser(r)
		c, m := made(t, p), newModel(p)
		for range 40 {
			x := m.wild(r)
			reps, count, told := c.Reps(), c.Count(), c.Told()
			fits := c.Fits(x)
			if !fits && c.Code(x) || fits != m.fits(x) {
				t.Fatalf("P9.1: seed %d: %+v fits: %v", seed, x, fits)
			}
			if c.Reps() != reps || c.Count() != count || !bytes.Equal(c.Told(), told) {
				t.Fatalf("P9.1: seed %d: %+v changed something", seed, x)
			}
			x = m.random(r)
			m.code(x)
			put(t, c, x)
		}
		if b, want := c.Finish(), m.finish(); !bytes.Equal(b, want) {
			t.Fatalf("P9.1: seed %d: %x, not %x", seed, b, want)
		}
	}
}

// TestReps: which one comes first behind each kind.
func TestReps(t *testing.T) {
	c := made(t, usual)
	put(t, c, literals("abcdefghi")...)
	for i, e := range []struct {
		x    api.Packet
		want [4]uint32
	}{
		{match(2, 3), [4]uint32{3}},
		{match(2, 5), [4]uint32{5, 3}},
		{match(2, 7), [4]uint32{7, 5, 3}},
		{match(2, 8), [4]uint32{8, 7, 5, 3}},
		{again(0, 4), [4]uint32{8, 7, 5, 3}},
		{single(), [4]uint32{8, 7, 5, 3}},
		{literal(1), [4]uint32{8, 7, 5, 3}},
		{again(1, 4), [4]uint32{7, 8, 5, 3}},
		{again(2, 4), [4]uint32{5, 7, 8, 3}},
		{again(3, 4), [4]uint32{3, 5, 7, 8}},
		{again(3, 4), [4]uint32{8, 3, 5, 7}},
		{match(2, 8), [4]uint32{8, 8, 3, 5}},
		{match(2, 0), [4]uint32{0, 8, 8, 3}},
		{end(), [4]uint32{math.MaxUint32, 0, 8, 8}},
	} {
		put(t, c, e.x)
		if c.Reps() != e.want {
			t.Errorf("P9.1: packet %d: %v, not %v", i, c.Reps(), e.want)
		}
	}
}

// TestTold: what each kind tells; a copy tells bytes that it told itself.
func TestTold(t *testing.T) {
	c := made(t, usual)
	want := ""
	for i, e := range []struct {
		x    api.Packet
		more string
	}{
		{literal('a'), "a"},
		{again(0, 3), "aaa"},
		{literal('b'), "b"},
		{match(5, 1), "ababa"},
		{literal('c'), "c"},
		{single(), "a"},
		{again(1, 2), "aa"},
		{match(4, 12), "aaab"},
		{again(2, 3), "aba"},
		{again(3, 2), "aa"},
		{again(2, 6), "caaaaa"},
		{end(), ""},
	} {
		put(t, c, e.x)
		if want += e.more; string(c.Told()) != want {
			t.Errorf("P9.1: packet %d: %q, not %q", i, c.Told(), want)
		}
	}
}

// TestMemoryIsNotShared: what was answered may be written over, and what was handed in.
func TestMemoryIsNotShared(t *testing.T) {
	c := made(t, usual)
	b := append(make([]byte, 0, 64), "abcd"...)
	c.Put(b)
	copy(b[:cap(b)], "xxxxxxxxxxxx")
	for range 2 {
		put(t, c, literal('e'))
		told := c.Told()
		clear(append(told, 1, 2, 3, 4, 5, 6, 7, 8))
		clear(told)
	}
	one := c.Finish()
	was := bytes.Clone(one)
	put(t, c, listed("f", match(7, 6))...)
	two := c.Finish()
	clear(append(two, 1, 2, 3))
	clear(two)
	if string(c.Told()) != "abcdeefabcdeef" || !bytes.Equal(one, was) {
		t.Errorf("P9.1: %q, %x, was %x", c.Told(), one, was)
	}
	b = append(make([]byte, 0, 64), "abcd"...)
	c.Put(b)
	put(t, c, literals("zzzz")...)
	if string(b[:cap(b)]) != "abcd"+string(make([]byte, 60)) {
		t.Errorf("P9.3: what was handed in is %q", b[:cap(b)])
	}
}

// TestCount: it is how many bytes Finish would give, whenever it is asked, and asking changes nothing.
func TestCount(t *testing.T) {
	for seed := range int64(200) {
		r := rand.New(rand.NewSource(seed))
		p := lesser(r)
		list, m := anyPackets(r, p, r.Intn(30))
		one, two := made(t, p), made(t, p)
		for _, x := range list {
			put(t, one, x)
			put(t, two, x)
			one.Count()
		}
		n := one.Count()
		b := one.Finish()
		if n != len(b) || !bytes.Equal(b, two.Finish()) || !bytes.Equal(b, m.finish()) || one.Count() != 5 {
			t.Fatalf("P9.2: seed %d: %d bytes, %x; %d behind Finish", seed, n, b, one.Count())
		}
	}
}

// TestFinishGoesOn: each stream has the packets since the last one; all but the range coder stays, as a decoder shows.
func TestFinishGoesOn(t *testing.T) {
	for seed := range int64(200) {
		r := rand.New(rand.NewSource(seed))
		p := anySetting(r)
		c, m, d := made(t, p), newModel(p), decoder(t, p)
		for range 2 + r.Intn(6) {
			from := len(m.all)
			for range r.Intn(30) {
				x := m.random(r)
				m.code(x)
				put(t, c, x)
			}
			b, want := c.Finish(), m.finish()
			d.Begin(&tape{b})
			if out := draw(d, len(m.all)-from); !bytes.Equal(out, m.all[from:]) || !d.Whole() || !bytes.Equal(b, want) {
				t.Fatalf("P9.2: seed %d: %x tells %x, not %x", seed, b, out, m.all[from:])
			}
			if c.Reps() != m.reps || !bytes.Equal(c.Told(), m.all) {
				t.Fatalf("P9.2: seed %d: %v, %x behind Finish", seed, c.Reps(), c.Told())
			}
		}
	}
}

// TestBehindAnEnd: nothing fits, nor changes anything, whatever is called but what begins anew; behind Finish packets fit again.
func TestBehindAnEnd(t *testing.T) {
	list := []api.Packet{literal('x'), match(2, 1), again(0, 2), again(1, 2), again(2, 2), again(3, 2), single(), end()}
	for _, between := range []func(c *lzmac.Coder){
		func(c *lzmac.Coder) {},
		func(c *lzmac.Coder) { c.Empty(); c.Put([]byte("abcd")) },
		func(c *lzmac.Coder) { c.Put(nil); c.Count(); c.Told(); c.Reset(api.Lzma{}) },
	} {
		c := made(t, usual)
		put(t, c, listed("abcd", match(2, 0), end())...)
		between(c)
		told, reps, n := c.Told(), c.Reps(), c.Count()
		for _, x := range list {
			fitting(t, c, x, false)
			if c.Code(x) || !bytes.Equal(c.Told(), told) || c.Reps() != reps || c.Count() != n {
				t.Errorf("P9.1: %+v is coded behind an end mark, or changes something", x)
			}
		}
		if c.Finish(); !bytes.Equal(c.Told(), told) || c.Reps() != reps {
			t.Errorf("P9.2: %q, %v behind Finish", c.Told(), c.Reps())
		}
		for _, x := range list {
			fitting(t, c, x, x != again(0, 2) && x != single())
		}
		put(t, c, literal('x'), match(2, 0), single(), end())
	}
}

// TestBehindAnEndAllElseStays: state and distances are those behind the end mark, whatever state was ahead of it.
func TestBehindAnEndAllElseStays(t *testing.T) {
	for seed := range int64(300) {
		r := rand.New(rand.NewSource(seed))
		p := lesser(r)
		c, m, d := made(t, p), newModel(p), decoder(t, p)
		for range 4 {
			from := len(m.all)
			for range r.Intn(8) {
				x := m.random(r)
				m.code(x)
				put(t, c, x)
			}
			put(t, c, end())
			m.code(end())
			b, want := c.Finish(), m.finish()
			d.Begin(&tape{b})
			if out := draw(d, len(m.all)-from+1); !bytes.Equal(out, m.all[from:]) || !d.Whole() || !bytes.Equal(b, want) || c.Reps() != m.reps {
				t.Fatalf("P9.2: seed %d: %x tells %x, not %x; distances %v", seed, b, out, m.all[from:], c.Reps())
			}
			if !d.Finish() {
				t.Fatalf("P9.2: seed %d: %x doesn't end", seed, b)
			}
		}
	}
}
