package lzma2_test

import (
	"bytes"
	"math/rand"
	"testing"

	"garbler/api"
	"garbler/lzma"
	"garbler/lzma2"
	"garbler/lzmac"
	"garbler/meter"
)

// The first bytes of chunks that tell no more than 65536 bytes.
const (
	plainAnew = 1
	plain     = 2
	goesOn    = 0x80
	newState  = 0xa0
	newProps  = 0xc0
	allAnew   = 0xe0
)

// usual is a setting of every day.
var usual = api.Lzma{Lc: 3, Pb: 2, Dict: 4096}

// coder makes chunks, whether they may be there or not.
type coder struct {
	c    *lzmac.Coder
	p    api.Lzma
	out  []byte
	told []byte
}

func newCoder(dict int) *coder {
	p := usual
	p.Dict = dict
	c, code := lzmac.New(p)
	if code != api.OK {
		panic("no coder")
	}
	return &coder{c: c, p: p}
}

// plain: a plain chunk.
func (k *coder) plain(c byte, text string) *coder {
	if c == plainAnew {
		k.c.Empty()
	}
	k.c.Put([]byte(text))
	k.told = append(k.told, text...)
	k.out = append(append(k.out, plainHead(c, len(text))...), text...)
	return k
}

// packed: a packed chunk of packets that fit. (The setting goes in where c says so.)
func (k *coder) packed(c byte, p api.Lzma, list ...api.Packet) *coder {
	n := k.begin(c, p)
	for _, x := range list {
		k.c.Code(x)
	}
	k.end(c, n)
	return k
}

// begin: a packed chunk begins; how many bytes were told ahead of it.
func (k *coder) begin(c byte, p api.Lzma) int {
	how := c/32 - 4
	if how == 3 {
		k.c.Empty()
	}
	if how >= 2 {
		k.p = p
		k.p.Dict = api.LeastDict // the coder has its own
	}
	if how >= 1 {
		k.c.Reset(k.p)
	}
	return len(k.c.Told())
}

// end: a packed chunk ends, behind n bytes that were told ahead of it.
func (k *coder) end(c byte, n int) {
	told := k.c.Told()[n:]
	b := k.c.Finish()
	k.told = append(k.told, told...)
	k.out = append(append(k.out, packedHead(c, len(told), len(b), k.p)...), b...)
}

// stream: the chunks, and the byte 0.
func (k *coder) stream() []byte { return append(bytes.Clone(k.out), 0) }

func plainHead(c byte, n int) []byte { return []byte{c, byte((n - 1) >> 8), byte(n - 1)} }

// packedHead: of a chunk that tells n bytes, by so many packed ones.
func packedHead(c byte, n, packed int, p api.Lzma) []byte {
	c += byte((n - 1) >> 16)
	b := []byte{c, byte((n - 1) >> 8), byte(n - 1), byte((packed - 1) >> 8), byte(packed - 1)}
	if c >= newProps {
		b = append(b, propOf(p))
	}
	return b
}

func propOf(p api.Lzma) byte { return byte((p.Pb*5+p.Lp)*9 + p.Lc) }

func literals(text string) []api.Packet {
	var list []api.Packet
	for i := range len(text) {
		list = append(list, api.Packet{Kind: api.Literal, Byte: text[i]})
	}
	return list
}

func match(n int, dist uint32) api.Packet {
	return api.Packet{Kind: api.Match, Len: n, Dist: dist}
}

func again(which, n int) api.Packet { return api.Packet{Kind: api.Again0 + which, Len: n} }

func anySetting(r *rand.Rand) api.Lzma {
	lc := r.Intn(5)
	return api.Lzma{Lc: lc, Lp: r.Intn(5 - lc), Pb: r.Intn(5)}
}

// anyPacket: one that fits, of any kind but an end mark.
func (k *coder) anyPacket(r *rand.Rand, there int) api.Packet {
	lengths := []int{2, 3, 9, 10, 17, 18, 272, 273}
	x := api.Packet{Kind: api.Match + r.Intn(6), Len: lengths[r.Intn(len(lengths))], Dist: uint32(r.Intn(1 + r.Intn(there+1)))}
	if r.Intn(3) > 0 && k.c.Fits(x) {
		return x
	}
	return api.Packet{Kind: api.Literal, Byte: byte(r.Intn(256))}
}

// anyChunk: a chunk of a kind.
func (k *coder) anyChunk(r *rand.Rand, c byte) {
	if c < 128 {
		text := make([]byte, 1+r.Intn(1<<r.Intn(12)))
		r.Read(text)
		k.plain(c, string(text))
		return
	}
	n := k.begin(c, anySetting(r))
	for range 1 + r.Intn(20) {
		k.c.Code(k.anyPacket(r, len(k.told)))
	}
	k.end(c, n)
}

// anyChunks: a coder that has n chunks that may be there.
func anyChunks(r *rand.Rand, dict, n int) *coder {
	k := newCoder(dict)
	have := 0 // 1: a window, 2: a setting, too
	for range n {
		may := [][]byte{{plainAnew, allAnew}, {plainAnew, plain, newProps, allAnew}, {plain, goesOn, newState, newProps, goesOn, newState, plainAnew, allAnew}}[have]
		c := may[r.Intn(len(may))]
		k.anyChunk(r, c)
		switch {
		case c == plainAnew:
			have = 1
		case c >= 128:
			have = 2
		}
	}
	return k
}

const (
	room  = 1 << 40             // enough for every decoder of a test
	probs = 2 * (1847 + 768*16) // bytes of probabilities
)

func much() *meter.Meter { return meterOf(room) }

func meterOf(mem int) *meter.Meter { return meter.New(api.Quota{Mem: mem}) }

// made is a decoder, and its meter.
func made(t *testing.T, p byte, size int) (*lzma2.Decoder, *meter.Meter) {
	t.Helper()
	m := much()
	d, code := lzma2.New(p, size, m)
	if d == nil || code != api.OK {
		t.Fatalf("P11.2: property %d, size %d: no decoder, code %d", p, size, code)
	}
	return d, m
}

// draw: the next n bytes that a decoder tells, or fewer, if it tells no more.
func draw(d *lzma2.Decoder, n int) []byte {
	var out []byte
	for range n {
		b, ok := d.Next()
		if !ok {
			break
		}
		out = append(out, b)
	}
	return out
}

// silent holds that a decoder tells nothing, however often it is asked.
func silent(t *testing.T, promise, what string, d *lzma2.Decoder) {
	t.Helper()
	for range 3 {
		if b, ok := d.Next(); b != 0 || ok {
			t.Fatalf("%s: %s: %d, %v is told", promise, what, b, ok)
		}
	}
}

// drawn holds what a stream tells, and whether it ends as said then, against what was to come.
func drawn(t *testing.T, promise string, b []byte, p byte, told []byte, ends bool) {
	t.Helper()
	d, _ := made(t, p, len(told)+10)
	d.Begin(&tape{b: b})
	if out := draw(d, len(told)); !bytes.Equal(out, told) {
		t.Fatalf("%s: %s: %s is told, not %s", promise, short(b), short(out), short(told))
	}
	if !ends {
		silent(t, promise, short(b), d)
	}
	if d.Finish() != ends {
		t.Fatalf("%s: %s: ends: %v", promise, short(b), !ends)
	}
	silent(t, "P11.3", "behind Finish", d)
}

// wrong holds that a stream is none, and tells just that ahead of where it is bad.
func wrong(t *testing.T, promise string, b []byte, told string) {
	t.Helper()
	drawn(t, promise, b, 0, []byte(told), false)
}

// short: some of the bytes, to be told.
func short(b []byte) string {
	const digits = "0123456789abcdef"
	var text []byte
	for _, v := range b[:min(len(b), 60)] {
		text = append(text, digits[v/16], digits[v%16])
	}
	if len(b) > 60 {
		text = append(text, ".."...)
	}
	return string(text)
}

// unpacked holds Unpack against what was to come, and looks whether its memory is given back.
func unpacked(t *testing.T, promise string, b []byte, p byte, size int, want []byte, ok bool) {
	t.Helper()
	m := much()
	was := bytes.Clone(b)
	out, code := lzma2.Unpack(b, p, size, m)
	wanted := api.OK
	if !ok {
		want, wanted = nil, api.Data
	}
	if !bytes.Equal(out, want) || code != wanted {
		t.Fatalf("%s: %s, property %d, size %d: %s, code %d; not %s, code %d", promise, short(b), p, size, short(out), code, short(want), wanted)
	}
	if m.Used() != (api.Used{Peak: asked(p, size)}) || m.Code() != api.OK {
		t.Fatalf("P11.4: %s, property %d, size %d: used %+v", short(b), p, size, m.Used())
	}
	if !bytes.Equal(b, was) {
		t.Fatalf("P11.4: what was handed in is %s, was %s", short(b), short(was))
	}
}

// asked: how many bytes a meter is asked for.
func asked(p byte, size int) int {
	dict, _ := lzma2.Dict(p)
	return max(1, min(dict, size)) + probs
}

// settings: all that may be here.
func settings() []api.Lzma {
	var all []api.Lzma
	for pb := range 5 {
		for lp := range 5 {
			for lc := range 5 - lp {
				all = append(all, api.Lzma{Lc: lc, Lp: lp, Pb: pb})
			}
		}
	}
	return all
}

// spent is a meter that is spent by a quota, and has memory enough.
func spent(code api.Code) *meter.Meter {
	m := meterOf(room)
	switch code {
	case api.QMem:
		m.Mem(room + 1)
	case api.QOut:
		m.Out(1)
	case api.QFiles:
		m.File()
	case api.QDepth:
		m.Down()
	case api.QSteps:
		m.Step(1)
	}
	return m
}

// askedOfLzma: how many bytes layer 8's New asks for.
func askedOfLzma(dict, size int) int {
	m := much()
	lzma.New(api.Lzma{Lc: 4, Dict: dict}, size, m)
	return m.Used().Mem
}
