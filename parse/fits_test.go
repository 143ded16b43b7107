package parse_test

import (
	"bytes"
	"math/rand"
	"testing"

	"garbler/api"
	"garbler/lzma"
	"garbler/lzmac"
	"garbler/meter"
	"garbler/parse"
)

func coder(t *testing.T, dict int) *lzmac.Coder {
	t.Helper()
	c, code := lzmac.New(api.Lzma{Lc: 3, Pb: 2, Dict: dict})
	if code != api.OK {
		t.Fatalf("dictionary %d: code %d", dict, code)
	}
	return c
}

// coded finds the packets of some bytes behind those that a coder told, and codes them.
func coded(t *testing.T, c *lzmac.Coder, b []byte, from, to, dict int) {
	t.Helper()
	q := asked{b, from, to, dict, c.Reps()}
	list, reps := q.find()
	for i, x := range list {
		if !c.Code(x) {
			t.Fatalf("P10.2: %v: packet %d, %+v, doesn't fit", q, i, x)
		}
	}
	if !bytes.Equal(c.Told(), b[:to]) {
		t.Fatalf("P10.2: %v: the packets tell other bytes", q)
	}
	if c.Reps() != reps {
		t.Fatalf("P10.1: %v: then %v, not %v", q, reps, c.Reps())
	}
}

// TestFits: behind bytes that were put, and behind packets; with a dictionary that has fewer bytes than were told, as many, or more.
func TestFits(t *testing.T) {
	for seed := range int64(60) {
		r := rand.New(rand.NewSource(seed))
		b := anyBytes(r, r.Intn(12000), []int{1, 2, 3, 20, 256}[r.Intn(5)])
		dict := 4096 + r.Intn(2)*r.Intn(9000)
		c := coder(t, dict)
		at := 0
		for at < len(b) {
			to := at + r.Intn(len(b)-at+1)
			if r.Intn(3) == 0 {
				to = min(at+r.Intn(5), len(b))
			}
			if r.Intn(4) == 0 {
				c.Put(b[at:to])
			} else {
				coded(t, c, b, at, to, dict)
			}
			at = to
		}
	}
}

// TestUnpacked: what is found is packed and unpacked to the same bytes.
func TestUnpacked(t *testing.T) {
	for seed := range int64(40) {
		r := rand.New(rand.NewSource(seed))
		b := anyBytes(r, r.Intn(9000), []int{1, 2, 3, 20, 256}[r.Intn(5)])
		p := api.Lzma{Lc: r.Intn(4), Lp: r.Intn(3), Pb: r.Intn(5), Dict: 4096}
		list, _ := parse.Find(b, 0, len(b), p.Dict, [4]uint32{})
		stream, told, code := lzmac.Pack(p, list)
		if code != api.OK || !bytes.Equal(told, b) {
			t.Fatalf("P10.2: seed %d: %d bytes are told, not %d, or others; code %d", seed, len(told), len(b), code)
		}
		out, code := lzma.Unpack(stream, p, len(b), meter.New(api.Quota{Mem: 1 << 30}))
		if code != api.OK || !bytes.Equal(out, b) {
			t.Fatalf("P10.2: seed %d: %d bytes are unpacked, not %d, or others; code %d", seed, len(out), len(b), code)
		}
	}
}

// TestManyBytes: more than there are two bytes, with a copy of far ones; and rows.
func TestManyBytes(t *testing.T) {
	const n, l, d = 90000, 300, 88000
	b := make([]byte, n)
	rand.New(rand.NewSource(1)).Read(b)
	b = append(b, b[n-1-d:n-1-d+l]...)
	reps := [4]uint32{1, 2, 3, 4}
	far := asked{b, n, n + l, 1 << 20, reps}
	far.is(t, listed(match(273, d), again(0, l-273)), [4]uint32{d, 1, 2, 3})
	far.within(d+1).is(t, listed(match(273, d), again(0, l-273)), [4]uint32{d, 1, 2, 3})
	if list, _ := far.within(d).find(); len(list) < 100 {
		t.Errorf("P10.1: %v: %v, though the copied bytes are too far", far.within(d), list)
	}
	far.till(n+3).is(t, listed(match(3, d)), [4]uint32{d, 1, 2, 3})
	list, _ := parse.Find(b, 0, len(b), 1<<20, [4]uint32{})
	if got := list[len(list)-2:]; got[0] != match(273, d) || got[1] != again(0, l-273) {
		t.Errorf("P10.1: the last packets are %v", got)
	}
	c := coder(t, 1<<20)
	coded(t, c, b, 0, len(b), 1<<20)

	row := asked{b: make([]byte, 1<<20), to: 1 << 20, dict: 1 << 20}
	const left = (1<<20 - 1) % 273
	row.is(t, listed(literal(0), times((1<<20-1)/273, again(0, 273)), again(0, left)), [4]uint32{})
}
