package prc_test

import (
	"bytes"
	"math/big"
	"math/rand"
	"testing"

	"garbler/api"
	"garbler/prc"
	"garbler/src"
)

// The kinds of shares.
const (
	part = iota
	bit
)

// counted is a source that tells how often it was asked.
type counted struct {
	*src.Feed
	asked int
}

func from(b ...[]byte) *counted { return &counted{Feed: src.NewFeed(bytes.Join(b, nil))} }

func (s *counted) Next() (byte, bool) {
	s.asked++
	return s.Feed.Next()
}

// model is where shares lie in all streams: from low on. Low is as long as all that was put, so that a carry is nothing special there.
type model struct {
	low    *big.Int
	span   uint64
	n      int         // how many bytes low has
	turned map[int]int // how often a carry went through so many bytes FF
}

func newModel() *model {
	return &model{low: new(big.Int), span: 1<<32 - 1, n: 5, turned: map[int]int{}}
}

// bytes: the stream that begins where the shares do.
func (m *model) bytes() []byte { return m.low.FillBytes(make([]byte, m.n)) }

// code: how far behind low a stream is, which has so many bytes.
func (m *model) code(b []byte) uint64 {
	at := new(big.Int).SetBytes(b[:m.n])
	return at.Sub(at, m.low).Uint64()
}

// put narrows the range to a share of it.
func (m *model) put(s api.Share) {
	unit := m.span / uint64(s.Total)
	from, to := unit*uint64(s.Start), unit*uint64(s.Start+s.Size)
	if s.Kind == bit {
		from, to = 0, m.bound(s.Size, s.Total)
		if s.Start == 1 {
			from, to = to, m.span
		}
	}
	m.add(from)
	for m.span = to - from; m.span < 1<<24; m.span *= 256 {
		m.low.Lsh(m.low, 8)
		m.n++
	}
}

// bound: what a bit 0 has of the range.
func (m *model) bound(size, power uint32) uint64 { return m.span / (1 << power) * uint64(size) }

// add keeps account of the carries to bytes that are beyond the 32 bits that a coder's low has.
func (m *model) add(more uint64) {
	ahead := new(big.Int).Rsh(m.low, 32)
	m.low.Add(m.low, new(big.Int).SetUint64(more))
	behind := new(big.Int).Rsh(m.low, 32)
	if behind.Cmp(ahead) != 0 {
		m.turned[int(behind.TrailingZeroBits()/8)]++
	}
}

// upTo: a number 1 to most, often one at the ends.
func upTo(r *rand.Rand, most uint32) uint32 {
	switch r.Intn(5) {
	case 0:
		return 1
	case 1:
		return most
	}
	return 1 + uint32(r.Int63n(int64(most)))
}

// aroundPlace: a share of a whole in which a place lies.
func aroundPlace(r *rand.Rand, place, total uint32) api.Share {
	start := upTo(r, place+1) - 1
	return api.Share{Start: start, Size: place - start + upTo(r, total-place), Total: total}
}

// shares: n of them.
func shares(r *rand.Rand, n int) []api.Share {
	list := make([]api.Share, n)
	for i := range list {
		if r.Intn(2) == part {
			total := upTo(r, 1<<r.Intn(21))
			list[i] = aroundPlace(r, upTo(r, total)-1, total)
		} else {
			power := upTo(r, 16)
			list[i] = api.Share{Kind: bit, Start: uint32(r.Intn(2)), Size: upTo(r, 1<<power-1), Total: power}
		}
	}
	return list
}

// wavy: a stream with rows of bytes 00 and FF: codes near the ends of their ranges, and carries from one such row to the other.
func wavy(r *rand.Rand) []byte {
	b := []byte{0}
	for range 1 + r.Intn(5) {
		b = append(b, bytes.Repeat([]byte{byte(-r.Intn(2))}, r.Intn(24))...)
		b = append(b, byte(r.Intn(256)))
	}
	for range 8 {
		b = append(b, byte(r.Intn(256)))
	}
	return b
}

// ended is how a stream's decoder became bad.
type ended struct {
	missing int // so many bytes of a levelling were missing
	beyond  bool
}

// along asks a decoder of a stream for shares of all kinds till it is bad, and holds all that it tells against the model: the shares, and how it became bad.
func along(t *testing.T, r *rand.Rand, b []byte) ([]api.Share, ended) {
	t.Helper()
	s, m, list := from(b), newModel(), []api.Share{}
	d := prc.NewDecoder(s)
	for m.n <= len(b) {
		code := m.code(b)
		if d.Bad() || d.Done() != (code == 0) || s.asked != m.n {
			t.Fatalf("P6.1: %x, behind %v: bad %v, done %v with the code %d; %d bytes, not %d, were asked for", b, list, d.Bad(), d.Done(), code, s.asked, m.n)
		}
		share, got, ok := next(r, d, m, code)
		if !ok {
			t.Fatalf("P6.1: %x, behind %v: %d is told, not of %v, with the code %d", b, list, got, share, code)
		}
		if share.Size == 0 {
			stays(t, d, s, m.n)
			return list, ended{beyond: true}
		}
		m.put(share)
		if m.n > len(b) && share.Kind == bit && got != 0 {
			t.Fatalf("P6.1: %x, behind %v: bytes are missing, and the bit is 1", b, list)
		}
		list = append(list, share)
	}
	stays(t, d, s, len(b)+1)
	return list, ended{missing: m.n - len(b)}
}

// next asks d for a share of any kind: what it is by the model, what is told, and whether that is right, as far as d isn't bad. A place that is beyond its whole has a share without size.
func next(r *rand.Rand, d *prc.Decoder, m *model, code uint64) (api.Share, uint64, bool) {
	if r.Intn(2) == bit {
		power := upTo(r, 16)
		share := api.Share{Kind: bit, Size: upTo(r, 1<<power-1), Total: power}
		if code >= m.bound(share.Size, power) {
			share.Start = 1
		}
		got := d.Bit(share.Size, int(power))
		return share, uint64(got), d.Bad() || got == int(share.Start)
	}
	total := upTo(r, 1<<r.Intn(21))
	place, got := code/(m.span/uint64(total)), d.Place(total)
	if place >= uint64(total) {
		return api.Share{Total: total}, uint64(got), got == 0 && d.Bad()
	}
	share := aroundPlace(r, uint32(place), total)
	ok := got == uint32(place) && !d.Bad()
	d.Take(share.Start, share.Size)
	return share, uint64(got), ok
}

// stays: a bad decoder tells nothing, asks for nothing, and stays bad.
func stays(t *testing.T, d *prc.Decoder, s *counted, asked int) {
	t.Helper()
	for range 3 {
		if !d.Bad() || d.Done() || s.asked != asked {
			t.Fatalf("P6.1: bad %v, done %v; %d bytes were asked for, not %d", d.Bad(), d.Done(), s.asked, asked)
		}
		if place, one := d.Place(1), d.Bit(1, 1); place != 0 || one != 0 {
			t.Fatalf("P6.1: a bad decoder tells the place %d, the bit %d", place, one)
		}
		if place, one := d.Place(1<<20), d.Bit(1, 16); place != 0 || one != 0 {
			t.Fatalf("P6.1: a bad decoder tells the place %d, the bit %d", place, one)
		}
		d.Take(0, 1)
		d.Take(7, 1<<20)
	}
}
