package lzma2c_test

import (
	"bytes"
	"encoding/hex"
	"math/rand"
	"testing"

	"garbler/api"
	"garbler/lzma2"
	"garbler/lzma2c"
	"garbler/meter"
)

// The first bytes of chunks of pieces.
const (
	plainAnew = 1
	plain     = 2
	goesOn    = 0x80
	newState  = 0xa0
	newProps  = 0xc0
	allAnew   = 0xe0
)

// usual is a setting of every day.
var usual = api.Lzma{Lc: 3, Pb: 2, Dict: 4096}

// within: the setting of every day, with another dictionary.
func within(dict int) api.Lzma {
	p := usual
	p.Dict = dict
	return p
}

// packed: the chunks that bytes come to. They are looked at by what each promise says of all chunks, too.
func packed(t *testing.T, b []byte, p api.Lzma, piece int) []byte {
	t.Helper()
	was := bytes.Clone(b)
	out, prop, code := lzma2c.Pack(b, p, piece)
	if code != api.OK {
		t.Fatalf("P12.1: %s, %+v, pieces of %d: code %d", short(b), p, piece, code)
	}
	if want := leastProp(p.Dict); prop != want {
		t.Fatalf("P12.1: %+v: property %d, not %d", p, prop, want)
	}
	if !bytes.Equal(b, was) {
		t.Fatalf("P12.1: what was handed in is %s, was %s", short(b), short(was))
	}
	pieces := (len(b) + piece - 1) / piece
	if most := len(b) + 6*pieces + 1; len(out) > most {
		t.Fatalf("P12.2: %d bytes of %d, %d pieces: more than %d", len(out), len(b), pieces, most)
	}
	told, code := lzma2.Unpack(out, prop, len(b), meter.New(api.Quota{Mem: 1 << 40}))
	if code != api.OK || !bytes.Equal(told, b) {
		t.Fatalf("P12.2: %s, %+v, pieces of %d: unpacked to %s, code %d", short(b), p, piece, short(told), code)
	}
	return out
}

// is holds the chunks that bytes come to against what was to come.
func is(t *testing.T, b []byte, p api.Lzma, piece int, want []byte) {
	t.Helper()
	if got := packed(t, b, p, piece); !bytes.Equal(got, want) {
		t.Fatalf("P12.1: %s, %+v, pieces of %d: %s, not %s", short(b), p, piece, short(got), short(want))
	}
}

// refused holds that there are no chunks, by a code.
func refused(t *testing.T, b []byte, p api.Lzma, piece int, want api.Code) {
	t.Helper()
	if out, prop, code := lzma2c.Pack(b, p, piece); len(out) != 0 || prop != 0 || code != want {
		t.Fatalf("P12.1: %+v, pieces of %d: %s, property %d, code %d; not code %d", p, piece, short(out), prop, code, want)
	}
}

// leastProp: by the powers of two, and three halves of them, that there are.
func leastProp(dict int) byte {
	for p := range byte(40) {
		if (4096+int(p%2)*2048)<<(p/2) >= dict {
			return p
		}
	}
	return 40
}

// head is how a chunk begins.
type head struct {
	first  byte
	told   int
	stream int  // bytes of a packed one
	props  byte // where one stands
}

// heads: those of all chunks, which must be ones of pieces.
func heads(t *testing.T, b []byte) []head {
	t.Helper()
	var list []head
	for len(b) > 0 && b[0] != 0 {
		h := head{first: b[0], told: int(b[1])*256 + int(b[2]) + 1}
		size := 3 + h.told
		switch h.first {
		case plainAnew, plain:
		case goesOn, newState:
			h.stream = int(b[3])*256 + int(b[4]) + 1
			size = 5 + h.stream
		case newProps, allAnew:
			h.stream, h.props = int(b[3])*256+int(b[4])+1, b[5]
			size = 6 + h.stream
		default:
			t.Fatalf("P12.1: a chunk begins with %x", h.first)
		}
		list = append(list, h)
		b = b[size:]
	}
	if len(b) != 1 {
		t.Fatalf("P12.1: %s is behind the last chunk", short(b))
	}
	return list
}

// firsts: just the first bytes of chunks.
func firsts(t *testing.T, b []byte) []byte {
	t.Helper()
	var list []byte
	for _, h := range heads(t, b) {
		list = append(list, h.first)
	}
	return list
}

// noise: n bytes of no order.
func noise(seed int64, n int) []byte {
	b := make([]byte, n)
	rand.New(rand.NewSource(seed)).Read(b)
	return b
}

// joined: some bytes, one behind the other.
func joined(parts ...[]byte) []byte { return bytes.Join(parts, nil) }

// anyBytes: n bytes: copied from anywhere ahead, sometimes with a slip, in rows of one byte, and without order.
func anyBytes(r *rand.Rand, n int) []byte {
	kinds := []int{1, 2, 3, 20, 256}[r.Intn(5)]
	var b []byte
	for len(b) < n {
		switch k := r.Intn(4); {
		case k == 0 && len(b) > 0:
			d := r.Intn(1 + r.Intn(len(b)))
			for range 1 + r.Intn(1+r.Intn(500)) {
				b = append(b, b[len(b)-1-d])
			}
			b[len(b)-1] ^= byte(r.Intn(5) / 4)
		case k == 1:
			b = append(b, bytes.Repeat([]byte{byte(r.Intn(kinds))}, 1+r.Intn(30))...)
		case k == 2:
			b = append(b, noise(r.Int63(), r.Intn(80))...)
		default:
			b = append(b, byte(r.Intn(kinds)))
		}
	}
	return b[:n]
}

// anySetting: one that may be here.
func anySetting(r *rand.Rand) api.Lzma {
	lc := r.Intn(5)
	dicts := []int{4096, 4096, 4097, 6144, 10000, 1 << 20}
	return api.Lzma{Lc: lc, Lp: r.Intn(5 - lc), Pb: r.Intn(5), Dict: dicts[r.Intn(len(dicts))]}
}

// anyPiece: one at an edge, or of any size that cuts n bytes.
func anyPiece(r *rand.Rand, n int) int {
	edges := []int{1, 2, 5, 6, 7, 8, 20, 64, 255, 256, 257, 1000, 4096, 65535, 65536}
	if r.Intn(3) > 0 {
		return edges[r.Intn(len(edges))]
	}
	return 1 + r.Intn(min(n+1, 65536))
}

func bytesOf(t *testing.T, text string) []byte {
	t.Helper()
	b, err := hex.DecodeString(text)
	if err != nil {
		t.Fatal(err)
	}
	return b
}

// short: some of the bytes, to be told.
func short(b []byte) string {
	if len(b) > 60 {
		return hex.EncodeToString(b[:60]) + ".."
	}
	return hex.EncodeToString(b)
}
