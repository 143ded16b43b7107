package bcj_test

import (
	"bytes"
	"math/rand"
)

// modelDecoded, modelCoded: a list gone through by the chapter's words, on numbers that don't wrap.
func modelDecoded(b []byte) []byte { return modelThrough(b, -1) }
func modelCoded(b []byte) []byte   { return modelThrough(b, 1) }

func modelThrough(b []byte, sign int64) []byte {
	out := bytes.Clone(b)
	i, mask, last := 0, 0, -1
	for i+4 < len(out) {
		if out[i] != 0xe8 && out[i] != 0xe9 {
			i++
			continue
		}
		gap := i - last
		if gap > 3 {
			mask = 0
		} else {
			for range gap - 1 {
				mask = mask * 2 % 8
			}
			if mask != 0 && (!modelAllowed(mask) || modelEdge(out[i+4-modelBit(mask)])) {
				last = i
				mask = mask*2%8/2*2 + 1
				i++
				continue
			}
		}
		last = i
		if !modelEdge(out[i+4]) {
			mask = mask*2%8 + 1
			i++
			continue
		}
		modelTurn(out[i+1:i+5], sign*int64(i+5), mask)
		i += 5
	}
	return out
}

// modelTurn: four bytes turned, by what is added.
func modelTurn(four []byte, more int64, mask int) {
	const whole = int64(1) << 32
	s := int64(0)
	for j := 3; j >= 0; j-- {
		s = s*256 + int64(four[j])
	}
	var t int64
	for {
		t = ((s+more)%whole + whole) % whole
		if mask == 0 {
			break
		}
		k := 8 * modelBit(mask)
		at := (24 - k) / 8
		if !modelEdge(byte(t >> (8 * at) % 256)) {
			break
		}
		part := int64(1) << (32 - k)
		s = t - t%part + (part - 1 - t%part) // the least 32 - k bits turned
	}
	for j := range 3 {
		four[j] = byte(t >> (8 * j) % 256)
	}
	four[3] = byte(t >> 24 % 2 * 255)
}

func modelEdge(x byte) bool { return x == 0 || x == 255 }

func modelAllowed(mask int) bool { return mask == 0 || mask == 1 || mask == 2 || mask == 4 }

func modelBit(mask int) int {
	switch mask {
	case 0:
		return 0
	case 1:
		return 1
	case 2, 3:
		return 2
	}
	return 3
}

// behind: which bytes are one of the four behind a byte E8 or E9.
func behind(b []byte) []bool {
	is := make([]bool, len(b))
	for i, x := range b {
		if x == 0xe8 || x == 0xe9 {
			for j := i + 1; j <= i+4 && j < len(b); j++ {
				is[j] = true
			}
		}
	}
	return is
}

// row: n bytes of some kinds, that hang on seed alone.
func row(seed int64, n int, kinds []byte) []byte {
	r := rand.New(rand.NewSource(seed))
	b := make([]byte, n)
	for i := range b {
		b[i] = kinds[r.Intn(len(kinds))]
	}
	return b
}

// some: kinds of bytes, with ever fewer marks among them.
func some() [][]byte {
	every := make([]byte, 256)
	for i := range every {
		every[i] = byte(i)
	}
	return [][]byte{
		{0xe8},
		{0xe8, 0xe9},
		{0xe8, 0xff},
		{0xe8, 0},
		{0xe8, 0xe9, 0, 0xff, 1, 0xfe},
		{0xe8, 0, 0xff, 1, 0xfe, 0x7f},
		{0xe8, 0, 0xff, 0, 0xff, 0x7f, 0x80},
		{0xe9, 0, 0xff, 0, 0xff, 0xf0, 0xf7, 0xf8, 8, 0x10, 0x11},
		{0xe8, 0xe9, 0xe7, 0xea, 0x68, 0xc8, 0, 0, 0xff, 0xff},
		append([]byte{0xe8, 0xe9, 0, 0xff, 0xe8, 0xe9, 0, 0xff}, every...),
		every,
	}
}

// each hands every row of up to most bytes of some kinds out, in one memory that is written over.
func each(kinds []byte, most int, does func(b []byte)) {
	b := make([]byte, 0, most)
	var longer func()
	longer = func() {
		does(b)
		if len(b) == most {
			return
		}
		for _, x := range kinds {
			b = append(b, x)
			longer()
			b = b[:len(b)-1]
		}
	}
	longer()
}

// short: a row, or, of a long one, how it begins.
func short(b []byte) []byte { return b[:min(len(b), 64)] }
