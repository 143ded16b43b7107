package lzma_test

import (
	"bytes"
	"encoding/binary"
	"math"
	"testing"

	"garbler/api"
	"garbler/lzma"
)

// dicts are dictionaries' bytes at the edges.
func dicts() []uint32 {
	return []uint32{0, 1, 255, 256, 4095, 4096, 4097, 1 << 16, 1 << 20, 0x12345678, 1 << 31, math.MaxUint32 - 1, math.MaxUint32}
}

// settings: all of them that may be, with one dictionary.
func settings(dict int) []api.Lzma {
	var list []api.Lzma
	for pb := range 5 {
		for lp := range 5 {
			for lc := range 9 {
				list = append(list, api.Lzma{Lc: lc, Lp: lp, Pb: pb, Dict: dict})
			}
		}
	}
	return list
}

// wrongSettings: each of them goes beyond one bound, at least.
func wrongSettings() []api.Lzma {
	far := []int{math.MinInt, math.MinInt32, -4096, -5, -1, 1 << 32, 1<<32 + 1, math.MaxInt}
	list := []api.Lzma{
		{}, {Lc: 3, Pb: 2}, {Lc: 9, Dict: 4096}, {Lp: 5, Dict: 4096}, {Pb: 5, Dict: 4096},
		{Lc: 3, Pb: 2, Dict: 4095}, {Lc: 3, Pb: 2, Dict: 1 << 32}, {Lc: 3, Pb: 2, Dict: -1 << 31}, {Lc: 8, Lp: -4, Dict: 4096},
		{Lc: -8, Lp: 4, Pb: 4, Dict: 4096}, {Lc: 9, Lp: 5, Pb: 5, Dict: 0},
	}
	for _, n := range far {
		list = append(list, api.Lzma{Lc: n, Dict: 4096}, api.Lzma{Lp: n, Dict: 4096}, api.Lzma{Pb: n, Dict: 4096}, api.Lzma{Dict: n})
	}
	return list
}

func TestExamplesOfProps(t *testing.T) {
	p, code := lzma.Parse([]byte{0x5d, 0, 0, 0x10, 0})
	if p != (api.Lzma{Lc: 3, Pb: 2, Dict: 1 << 20}) || code != api.OK {
		t.Errorf("P8.1: %+v, code %d", p, code)
	}
	if b := lzma.Props(p); !bytes.Equal(b, []byte{0x5d, 0, 0, 0x10, 0}) {
		t.Errorf("P8.1: %x", b)
	}
}

// TestParseEachFirstByte: of the first 225 each is that of one setting.
func TestParseEachFirstByte(t *testing.T) {
	all := settings(0)
	for first := range 256 {
		for _, dict := range dicts() {
			b := binary.LittleEndian.AppendUint32([]byte{byte(first)}, dict)
			p, code := lzma.Parse(b)
			if first >= 225 {
				if p != (api.Lzma{}) || code != api.Props {
					t.Errorf("P8.1: %x: %+v, code %d", b, p, code)
				}
				continue
			}
			want := all[first]
			want.Dict = max(int(dict), 4096)
			if p != want || code != api.OK || !lzma.May(p) {
				t.Errorf("P8.1: %x: %+v, code %d; not %+v", b, p, code, want)
			}
		}
	}
}

func TestParseOtherThanFiveBytes(t *testing.T) {
	for n := range 20 {
		b := make([]byte, n)
		was := bytes.Clone(b)
		p, code := lzma.Parse(b)
		if n != 5 && (p != (api.Lzma{}) || code != api.Props) {
			t.Errorf("P8.1: %d bytes: %+v, code %d", n, p, code)
		}
		if !bytes.Equal(b, was) {
			t.Errorf("P8.1: what was handed in is %x", b)
		}
	}
	if p, code := lzma.Parse(nil); p != (api.Lzma{}) || code != api.Props {
		t.Errorf("P8.1: no bytes: %+v, code %d", p, code)
	}
}

func TestPropsOfEachSetting(t *testing.T) {
	for _, dict := range dicts() {
		if dict < 4096 {
			continue
		}
		for i, p := range settings(int(dict)) {
			want := binary.LittleEndian.AppendUint32([]byte{byte(i)}, dict)
			b := lzma.Props(p)
			if !bytes.Equal(b, want) {
				t.Fatalf("P8.1: %+v: %x, not %x", p, b, want)
			}
			b[0], b[4] = 77, 77
			if b := lzma.Props(p); !bytes.Equal(b, want) {
				t.Fatalf("P8.1: %+v: %x behind a change of what was answered", p, b)
			}
			if q, code := lzma.Parse(want); q != p || code != api.OK {
				t.Fatalf("P8.1: %x: %+v, code %d", want, q, code)
			}
		}
	}
}

// TestSettingsThatMayBe: and how many probabilities they have, counted by the chapter's list.
func TestSettingsThatMayBe(t *testing.T) {
	lengths := 2 + 16*8 + 16*8 + 256
	packets := 2*12*16 + 4*12 + 4*64 + 115 + 16 + 2*lengths
	for _, dict := range []int{4096, 4097, 1 << 31, math.MaxUint32} {
		for _, p := range settings(dict) {
			want := 768
			for range p.Lc + p.Lp {
				want *= 2
			}
			if !lzma.May(p) || lzma.Probs(p) != packets+want {
				t.Errorf("P8.1: %+v: %v, %d probabilities, not %d", p, lzma.May(p), lzma.Probs(p), packets+want)
			}
		}
	}
}

func TestSettingsThatMayNotBe(t *testing.T) {
	for _, p := range wrongSettings() {
		if lzma.May(p) || len(lzma.Props(p)) != 0 || lzma.Probs(p) != 0 {
			t.Errorf("P8.1: %+v: %v, %x, %d probabilities", p, lzma.May(p), lzma.Props(p), lzma.Probs(p))
		}
	}
}
