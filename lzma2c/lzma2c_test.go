package lzma2c_test

import (
	"bytes"
	"math"
	"testing"

	"garbler/api"
	"garbler/lzma2"
	"garbler/lzma2c"
)

func TestExamples(t *testing.T) {
	is(t, []byte("ab"), usual, 1, []byte{1, 0, 0, 'a', 2, 0, 0, 'b', 0})
	is(t, []byte("ab"), usual, 2, []byte{1, 0, 1, 'a', 'b', 0})
	is(t, []byte("ab"), usual, 65536, []byte{1, 0, 1, 'a', 'b', 0})
	is(t, []byte("abc"), usual, 2, []byte{1, 0, 1, 'a', 'b', 2, 0, 0, 'c', 0})
	for _, piece := range []int{1, 2, 65535, 65536} {
		is(t, nil, usual, piece, []byte{0})
		is(t, []byte{}, usual, piece, []byte{0})
	}
}

// TestMay: every setting near the bounds, and far from them. Pack takes just those, whatever else may not be.
func TestMay(t *testing.T) {
	dicts := []int{math.MinInt, -1, 0, 1, 4095, 4096, 4097, 1<<32 - 1, 1 << 32, math.MaxInt}
	few := []int{math.MinInt, -4, -1, 0, 1, 2, 3, 4, 5, 8, 9, 1 << 32, math.MaxInt}
	there := 0
	for _, lc := range few {
		for _, lp := range few {
			for _, pb := range few {
				for _, dict := range dicts {
					p := api.Lzma{Lc: lc, Lp: lp, Pb: pb, Dict: dict}
					want := lc >= 0 && lc <= 4 && lp >= 0 && lp <= 4 && lc+lp <= 4 && pb >= 0 && pb <= 4 && dict >= 4096 && dict <= 1<<32-1
					if lzma2c.May(p) != want {
						t.Fatalf("P12.1: %+v may be: %v", p, !want)
					}
					if want {
						there++
						is(t, []byte("a"), p, 9, []byte{1, 0, 0, 'a', 0})
						refused(t, []byte("a"), p, 0, api.ErrArg)
						continue
					}
					for _, piece := range []int{math.MinInt, 0, 1, 65536, 65537} {
						refused(t, []byte("a"), p, piece, api.Props)
					}
					refused(t, nil, p, 1, api.Props)
				}
			}
		}
	}
	if there != 15*5*3 {
		t.Errorf("P12.1: %d settings may be", there)
	}
}

// TestSizesOfPieces: 1 to 65536, and no others.
func TestSizesOfPieces(t *testing.T) {
	text := []byte("bytes that are cut")
	for _, piece := range []int{math.MinInt, math.MinInt32, -65536, -2, -1, 0, 65537, 65538, 1 << 17, 1 << 32, 1<<32 + 1, math.MaxInt} {
		for _, b := range [][]byte{nil, text, make([]byte, 70000)} {
			refused(t, b, usual, piece, api.ErrArg)
		}
	}
	for _, piece := range []int{1, 2, len(text) - 1, len(text), len(text) + 1, 1000, 65535, 65536} {
		is(t, text, usual, piece, modelOf(text, usual, piece))
	}
}

// TestProperty: the least one that has the dictionary, whatever the bytes are.
func TestProperty(t *testing.T) {
	for _, e := range []struct {
		dict int
		prop byte
	}{
		{4096, 0}, {4097, 1}, {6143, 1}, {6144, 1}, {6145, 2}, {8192, 2}, {8193, 3}, {12288, 3}, {12289, 4}, {1 << 20, 16}, {1<<20 + 1, 17}, {3 << 19, 17}, {3<<19 + 1, 18}, {1 << 31, 38}, {1<<31 + 1, 39}, {3 << 30, 39}, {3<<30 + 1, 40}, {1<<32 - 1, 40},
	} {
		for _, b := range [][]byte{nil, []byte("ab"), make([]byte, 100)} {
			_, prop, code := lzma2c.Pack(b, within(e.dict), 64)
			if prop != e.prop || code != api.OK {
				t.Errorf("P12.1: dictionary %d: property %d, code %d; not %d", e.dict, prop, code, e.prop)
			}
			if want, _ := lzma2.Prop(e.dict); want != e.prop {
				t.Errorf("P12.1: dictionary %d: layer 11 says %d", e.dict, want)
			}
		}
	}
}

// TestSettingStands: just in chunks that bring one, as it is.
func TestSettingStands(t *testing.T) {
	b := joined(make([]byte, 64), make([]byte, 64), noise(1, 64), make([]byte, 64))
	late := joined(noise(2, 64), b)
	for pb := range 5 {
		for lp := range 5 {
			for lc := range 5 - lp {
				p := api.Lzma{Lc: lc, Lp: lp, Pb: pb, Dict: 4096}
				props := byte((pb*5+lp)*9 + lc)
				at := map[byte]byte{allAnew: props, newProps: props}
				for _, b := range [][]byte{b, late} {
					out := packed(t, b, p, 64)
					for _, h := range heads(t, out) {
						if h.props != at[h.first] {
							t.Errorf("P12.1: %+v: a chunk %x has the setting %d", p, h.first, h.props)
						}
					}
				}
				if got := firsts(t, packed(t, b, p, 64)); !bytes.Equal(got, []byte{allAnew, goesOn, plain, newState}) {
					t.Errorf("P12.1: %+v: chunks %x", p, got)
				}
				if got := firsts(t, packed(t, late, p, 64)); !bytes.Equal(got, []byte{plainAnew, newProps, goesOn, plain, newState}) {
					t.Errorf("P12.1: %+v: chunks %x", p, got)
				}
			}
		}
	}
}

// TestAnswersShareNothing: with each other, with what was handed in, and with what comes.
func TestAnswersShareNothing(t *testing.T) {
	whole := joined([]byte("abcdef"), make([]byte, 100), noise(3, 100))
	was := bytes.Clone(whole)
	b := whole[:150] // it has spare room
	one, _, _ := lzma2c.Pack(b, usual, 50)
	want := bytes.Clone(one)
	if !bytes.Equal(whole, was) {
		t.Error("P12.1: what was handed in was written over")
	}
	two, _, _ := lzma2c.Pack(b, usual, 50)
	for i := range b {
		b[i] ^= 0xff
	}
	if !bytes.Equal(one, want) || !bytes.Equal(two, want) {
		t.Error("P12.1: an answer is what was handed in")
	}
	for i := range one {
		one[i] = 0xee
	}
	_ = append(one, 1, 2, 3)
	if !bytes.Equal(two, want) {
		t.Error("P12.1: an answer is another one")
	}
	is(t, was[:150], usual, 50, want)
	empty, _, _ := lzma2c.Pack(nil, usual, 1)
	empty[0] = 9
	is(t, nil, usual, 1, []byte{0})
}
