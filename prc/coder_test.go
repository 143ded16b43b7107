package prc_test

import (
	"bytes"
	"math"
	"math/rand"
	"testing"

	"garbler/api"
	"garbler/prc"
)

// gives holds what c finishes, and what it counts ahead of that, against what was to come.
func gives(t *testing.T, c *prc.Coder, want []byte) {
	t.Helper()
	if n := c.Count(); n != len(want) {
		t.Errorf("P6.2: %d bytes are counted, not %d", n, len(want))
	}
	if b := c.Finish(); !bytes.Equal(b, want) {
		t.Errorf("P6.2: %x, not %x", b, want)
	}
}

// stream: the bytes of shares, by a coder of their own.
func stream(list []api.Share) []byte {
	c := prc.NewCoder()
	for _, s := range list {
		c.Put(s)
	}
	return c.Finish()
}

func TestBytesOfShares(t *testing.T) {
	for _, e := range []struct {
		list []api.Share
		want []byte
	}{
		{nil, []byte{0, 0, 0, 0, 0}},
		{[]api.Share{{Start: 1, Size: 1, Total: 2}}, []byte{0, 0x7f, 0xff, 0xff, 0xff}},
		{[]api.Share{{Start: 0, Size: 1, Total: 1}}, []byte{0, 0, 0, 0, 0}},
		{[]api.Share{{Start: 97, Size: 1, Total: 257}}, []byte{0, 0x60, 0x9f, 0x60, 0x9f, 0}}, // 97 times ff00ff
		{[]api.Share{{Start: 1<<20 - 1, Size: 1, Total: 1 << 20}}, []byte{0, 0xff, 0xef, 0xf0, 0x01, 0, 0}},
		{[]api.Share{{Start: 1<<20 - 2, Size: 1, Total: 1<<20 - 1}}, []byte{0, 0xff, 0xff, 0xe0, 0, 0, 0}},
		{[]api.Share{{Start: 1, Size: 1<<20 - 1, Total: 1 << 20}}, []byte{0, 0, 0, 0x0f, 0xff}},
		{[]api.Share{{Kind: 1, Start: 0, Size: 1, Total: 1}}, []byte{0, 0, 0, 0, 0}},
		{[]api.Share{{Kind: 1, Start: 1, Size: 1, Total: 1}}, []byte{0, 0x7f, 0xff, 0xff, 0xff}},
		{[]api.Share{{Kind: 1, Start: 0, Size: 1, Total: 16}}, []byte{0, 0, 0, 0, 0, 0, 0}},
		{[]api.Share{{Kind: 1, Start: 1, Size: 1, Total: 16}}, []byte{0, 0, 0, 0xff, 0xff}},
		{[]api.Share{{Kind: 1, Start: 1, Size: 1<<16 - 1, Total: 16}}, []byte{0, 0xff, 0xfe, 0, 1, 0}},
		{[]api.Share{{Kind: 1, Start: 0, Size: 1<<16 - 1, Total: 16}}, []byte{0, 0, 0, 0, 0}},
	} {
		c := prc.NewCoder()
		for _, s := range e.list {
			c.Put(s)
		}
		gives(t, c, e.want)
		if m := newModel(); len(e.list) > 0 {
			m.put(e.list[0])
			if !bytes.Equal(m.bytes(), e.want) {
				t.Errorf("the model has %x for %v", m.bytes(), e.list)
			}
		}
	}
}

// TestLevelsOfACoder: a range of 2^24 isn't levelled, one below it is, by as many bytes as it takes.
func TestLevelsOfACoder(t *testing.T) {
	c := prc.NewCoder()
	for i, s := range []api.Share{
		{Size: 4096, Total: 1<<20 - 1}, // 2^24 is left,
		{Size: 1, Total: 1 << 20},      // and 16 of these
	} {
		c.Put(s)
		if n := c.Count(); n != 5+3*i {
			t.Errorf("P6.2: %d bytes are counted behind %+v", n, s)
		}
	}
	c.Finish()
	c.Put(api.Share{Size: 4095, Total: 1<<20 - 1})
	gives(t, c, make([]byte, 6))
}

// asModel puts shares, and holds the coder's bytes against those of the model.
func asModel(t *testing.T, c *prc.Coder, list []api.Share) *model {
	t.Helper()
	m := newModel()
	for i, s := range list {
		c.Put(s)
		m.put(s)
		if n := c.Count(); n != m.n {
			t.Fatalf("P6.2: %v: %d bytes, not %d, are counted behind share %d", list, n, m.n, i)
		}
	}
	if b := c.Finish(); !bytes.Equal(b, m.bytes()) {
		t.Fatalf("P6.2: %v: %x, not %x", list, b, m.bytes())
	}
	return m
}

// told holds what a decoder tells of a coder's bytes, and bytes behind them, against what was put.
func told(t *testing.T, list []api.Share, b, behind []byte) {
	t.Helper()
	f := from(b, behind)
	d := prc.NewDecoder(f)
	for i, s := range list {
		if s.Kind == bit {
			if one := d.Bit(s.Size, int(s.Total)); one != int(s.Start) {
				t.Fatalf("P6.3: %x, %x behind it: share %d, %+v, is told as %d", b, behind, i, s, one)
			}
			continue
		}
		if place := d.Place(s.Total); place < s.Start || place-s.Start >= s.Size {
			t.Fatalf("P6.3: %x, %x behind it: share %d, %+v, has the place %d", b, behind, i, s, place)
		}
		d.Take(s.Start, s.Size)
	}
	if d.Bad() || !d.Done() || f.asked != len(b) {
		t.Fatalf("P6.3: %x, %x behind it: bad %v, done %v; %d bytes were asked for", b, behind, d.Bad(), d.Done(), f.asked)
	}
}

// TestAnyShares: one coder, which begins anew each time. What is put is told, and just these bytes are asked for, whatever stands behind them.
func TestAnyShares(t *testing.T) {
	c := prc.NewCoder()
	for seed := range int64(2000) {
		r := rand.New(rand.NewSource(seed))
		list := shares(r, r.Intn(80))
		b := asModel(t, c, list).bytes()
		told(t, list, b, nil)
		told(t, list, b, []byte{255, 255, 255, 255, 255, 255})
		told(t, list, b, []byte{byte(r.Intn(256)), 0})
	}
}

// TestCarries: they go through rows of bytes FF, of all lengths; other such rows stay. So it is with shares that a stream tells: low comes from below to what the stream is.
func TestCarries(t *testing.T) {
	c, through, stay := prc.NewCoder(), map[int]int{}, map[int]int{}
	for seed := range int64(4000) {
		r := rand.New(rand.NewSource(seed))
		list, _ := along(t, r, append([]byte{0, byte(r.Intn(255))}, wavy(r)[1:]...))
		m := asModel(t, c, list)
		told(t, list, m.bytes(), nil)
		for run, times := range m.turned {
			through[run] += times
		}
		full := 0
		for _, one := range m.bytes() {
			full++
			if one != 0xff {
				full = 0
			}
			stay[full]++
		}
	}
	for run := range 20 {
		if through[run] == 0 || stay[run+1] == 0 {
			t.Errorf("of %d bytes FF: %d carries; of one more: %d rows that stay: some aren't looked at", run, through[run], stay[run+1])
		}
	}
}

// TestEveryEnd: shares are finished behind each of them.
func TestEveryEnd(t *testing.T) {
	for seed := range int64(60) {
		r := rand.New(rand.NewSource(seed))
		list, _ := along(t, r, append([]byte{0, byte(r.Intn(255))}, wavy(r)[1:]...))
		for n := range list {
			told(t, list[:n], asModel(t, prc.NewCoder(), list[:n]).bytes(), []byte{255})
		}
	}
}

// TestNoShareIsPut: what is no share changes nothing.
func TestNoShareIsPut(t *testing.T) {
	list := shares(rand.New(rand.NewSource(3)), 30)
	want := stream(list)
	for _, no := range []api.Share{
		{},
		{Size: 1},
		{Total: 1},
		{Start: 1, Total: 5},
		{Start: 5, Size: 1, Total: 5},
		{Start: 4, Size: 2, Total: 5},
		{Start: 6, Size: math.MaxUint32, Total: 5},
		{Start: math.MaxUint32, Size: 2, Total: 5},
		{Start: 2, Size: math.MaxUint32, Total: 5},
		{Size: 1, Total: 1<<20 + 1},
		{Size: 1 << 24, Total: 1 << 31},
		{Kind: 1},
		{Kind: 1, Size: 1},
		{Kind: 1, Start: 0, Total: 14},
		{Kind: 1, Start: 1, Total: 14},
		{Kind: 1, Start: 2, Size: 1, Total: 14},
		{Kind: 1, Start: 0, Size: 1 << 14, Total: 14},
		{Kind: 1, Start: 1, Size: 1 << 14, Total: 14},
		{Kind: 1, Start: 1, Size: 1, Total: 17},
		{Kind: 1, Start: 1, Size: 1, Total: 32},
		{Kind: 1, Start: 1, Size: 1, Total: math.MaxUint32},
		{Kind: 2, Start: 1, Size: 1, Total: 2},
		{Kind: -1, Start: 1, Size: 1, Total: 2},
		{Kind: math.MaxInt, Start: 1, Size: 1, Total: 2},
	} {
		c := prc.NewCoder()
		for _, s := range list {
			c.Put(no)
			c.Put(s)
		}
		c.Put(no)
		if b := c.Finish(); !bytes.Equal(b, want) {
			t.Errorf("P6.2: with %+v: %x, not %x", no, b, want)
		}
	}
}

// TestBeginsAnew: behind a finish, a coder is as a new one, wherever it was: low, range and bytes.
func TestBeginsAnew(t *testing.T) {
	for seed := range int64(300) {
		r := rand.New(rand.NewSource(seed))
		c, second := prc.NewCoder(), shares(r, 10)
		for _, s := range shares(r, r.Intn(20)) {
			c.Put(s)
		}
		c.Finish()
		gives(t, c, make([]byte, 5))
		gives(t, c, make([]byte, 5))
		for _, s := range second {
			c.Put(s)
		}
		gives(t, c, stream(second))
	}
}

// TestCountChangesNothing: a coder that is often asked for its count gives the same.
func TestCountChangesNothing(t *testing.T) {
	list := shares(rand.New(rand.NewSource(5)), 100)
	c := prc.NewCoder()
	for _, s := range list {
		c.Put(s)
		if n, again := c.Count(), c.Count(); again != n {
			t.Errorf("P6.2: %d bytes are counted, then %d", n, again)
		}
	}
	gives(t, c, stream(list))
}

// TestBytesAreNewMemory: bytes that were handed out aren't the coder's any more, nor is the room behind them, however much of it there is.
func TestBytesAreNewMemory(t *testing.T) {
	r := rand.New(rand.NewSource(6))
	for n := range 60 {
		c, second := prc.NewCoder(), shares(r, 60)
		for _, s := range shares(r, n) {
			c.Put(s)
		}
		out := c.Finish()
		all := out[:cap(out)]
		for i := range all {
			all[i] = 0xa5
		}
		for _, s := range second {
			c.Put(s)
		}
		gives(t, c, stream(second))
		if !bytes.Equal(all, bytes.Repeat([]byte{0xa5}, len(all))) {
			t.Errorf("P6.2: the bytes of %d shares were changed behind their finish", n)
		}
	}
}

// TestTwoCoders: what one is given doesn't matter to the other.
func TestTwoCoders(t *testing.T) {
	r := rand.New(rand.NewSource(1))
	one, two := shares(r, 50), shares(r, 50)
	c, d := prc.NewCoder(), prc.NewCoder()
	for i := range one {
		c.Put(one[i])
		d.Put(two[i])
	}
	gives(t, c, stream(one))
	gives(t, d, stream(two))
}
