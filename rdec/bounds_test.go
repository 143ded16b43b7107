package rdec

import (
	"math/rand"
	"testing"
)

// row is a source.
type row []byte

func (s *row) Next() (byte, bool) {
	if len(*s) == 0 {
		return 0, false
	}
	b := (*s)[0]
	*s = (*s)[1:]
	return b, true
}

// rowOf: a stream that begins as it must; the others of its bytes are about what kind says.
func rowOf(r *rand.Rand, kind int) *row {
	b := make(row, 5+r.Intn(200))
	switch kind {
	case 0:
		r.Read(b)
	case 1:
		for i := range b {
			b[i] = 255
		}
		b[4] = byte(250 + r.Intn(5))
	case 2:
		b[r.Intn(len(b))] = byte(r.Intn(256))
	}
	b[0] = 0
	return &b
}

// TestBounds: as long as a decoder isn't bad, its code is below its range, which is 2^24 at least; a probability stays 31 to 2017.
func TestBounds(t *testing.T) {
	bad := 0
	for seed := range 3000 {
		r := rand.New(rand.NewSource(int64(seed)))
		d, p := New(rowOf(r, seed%3)), Fresh(256)
		for step := 0; step < 500 && !d.bad; step++ {
			if d.code >= d.span || d.span < 1<<24 {
				t.Fatalf("P4.3: seed %d: behind %d steps the code is %d, the range %d", seed, step, d.code, d.span)
			}
			ahead := p
			switch r.Intn(5) {
			case 0:
				d.Straight(1)
			case 1:
				d.Tree(p, 3)
			case 2:
				d.Reverse(p, 3)
			default:
				d.Bit(&p[1])
			}
			for i, v := range p {
				if v < 31 || v > 2017 {
					t.Fatalf("P4.3: seed %d: a probability was %d, and is %d", seed, ahead[i], v)
				}
			}
		}
		if d.bad {
			bad++
		}
	}
	if bad == 0 || bad == 3000 {
		t.Errorf("%d of 3000 decoders are bad: the others aren't looked at", bad)
	}
}

// TestBadChangesNothing: of a decoder that is bad for any reason nothing changes any more, its code neither.
func TestBadChangesNothing(t *testing.T) {
	for _, b := range []row{
		{},
		{0, 1, 2},
		{3, 200, 1, 2, 3, 4, 5, 6, 7},
		{0, 255, 255, 255, 255, 4, 5, 6, 7},
		{0, 255, 255, 255, 254, 4, 5, 6, 7},
		{0, 200, 100, 50, 25},
	} {
		d, p := New(&b), Fresh(256)
		for range 8 {
			d.Straight(1)
		}
		if !d.bad {
			t.Fatalf("P4.2: %x is left, and the decoder isn't bad", b)
		}
		span, code, left := d.span, d.code, len(b)
		d.Bit(&p[0])
		d.Tree(p, 8)
		d.Reverse(p, 8)
		d.Straight(3)
		if d.span != span || d.code != code || len(b) != left {
			t.Errorf("P4.1: a bad decoder: range %d, code %d, %d bytes left; not %d, %d, %d", d.span, d.code, len(b), span, code, left)
		}
	}
}
