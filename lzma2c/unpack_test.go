package lzma2c_test

import (
	"bytes"
	"math/rand"
	"strings"
	"testing"

	"garbler/api"
)

// TestAnyBytes: by any setting and in any pieces chunks are as the model says, and are unpacked to what they were.
func TestAnyBytes(t *testing.T) {
	seen := map[byte]int{}
	for seed := range int64(700) {
		r := rand.New(rand.NewSource(seed))
		b := anyBytes(r, r.Intn(1+r.Intn(4000)))
		p, piece := anySetting(r), anyPiece(r, len(b))
		out := packed(t, b, p, piece)
		if want := modelOf(b, p, piece); !bytes.Equal(out, want) {
			t.Fatalf("P12.1: seed %d, %+v, %d bytes in pieces of %d: %s, not %s", seed, p, len(b), piece, short(out), short(want))
		}
		for _, first := range firsts(t, out) {
			seen[first]++
		}
	}
	for _, first := range []byte{plainAnew, plain, goesOn, newState, newProps, allAnew} {
		if seen[first] < 50 {
			t.Errorf("%d chunks %x: too few", seen[first], first)
		}
	}
}

// TestManyBytes: more than one of the longest pieces, in long ones and in others.
func TestManyBytes(t *testing.T) {
	r := rand.New(rand.NewSource(1))
	b := joined(anyBytes(r, 90000), noise(13, 140000), anyBytes(r, 90000), make([]byte, 70000), noise(13, 140000)[:66000])
	for _, piece := range []int{5000, 65535, 65536} {
		for _, dict := range []int{4096, 1 << 20} {
			is(t, b, within(dict), piece, modelOf(b, within(dict), piece))
		}
	}
}

// TestMostBytes: where nothing is worth packing each piece costs three bytes, however short it is.
func TestMostBytes(t *testing.T) {
	for _, piece := range []int{1, 2, 3, 5, 100, 65536} {
		for _, n := range []int{0, 1, 99, 100, 101, 1000} {
			pieces := (n + piece - 1) / piece
			if out := packed(t, noise(14, n), usual, piece); len(out) != n+3*pieces+1 {
				t.Errorf("P12.2: %d bytes in pieces of %d: %d", n, piece, len(out))
			}
		}
	}
}

// TestWrittenOut: chunks that a second coder, written by the chapters alone and in another language, made of some bytes, and that a decoder in wide use unpacked.
func TestWrittenOut(t *testing.T) {
	const was = "the window that was, the window that is, the window that will be: that was that. "
	const any = "\xca\x97\x81\x12\xca\x1b\xbd\xca\xfa\xc21\xb3\x9a#\xdcM\xa7\x86\xef\xf8\x14|Nr"
	for _, e := range []struct {
		text  string
		p     api.Lzma
		piece int
		want  string
	}{
		{was, api.Lzma{Lc: 3, Lp: 0, Pb: 2, Dict: 4096}, 65536, "e00050002d5d003a1a08ce76fdacb62fa4ae3a66e23be961b57e80d9384d25ae9382d39fc75f2dc2c4eb581c8e3cfc94bab7c00000"},
		{was + was, api.Lzma{Lc: 3, Lp: 0, Pb: 2, Dict: 4096}, 50, "e00031001f5d003a1a08ce76fdacb62fa4ae3a66e23be961b57e80d9384d25ae93502ea8c2e0800031001500d748584cba61721fb8b5c3f2ac954d91bcbfe05000800031000600b3b2ceae880080000b000500daa2c8000000"},
		{any + was + any + was + was[9:], api.Lzma{Lc: 0, Lp: 2, Pb: 0, Dict: 65536}, 24, "010017ca978112ca1bbdcafac231b39a23dc4da786eff8147c4e720200177468652077696e646f772074686174207761732c20746865c0001700091200a64130cfa6e5be6000800017000f00d8c45ed40dcc0031c74677b289b800800017000c0080aae7bcd8e4a45d8d8b1400800017000500dbea8e6000800017000500dc043a0340800017000500da43186c97800017000700d85cea88025700800017000600b68814a73200800017000500dd87fe0312800011000500d675e9340000"},
		{was[:60] + any + any + was, api.Lzma{Lc: 1, Lp: 3, Pb: 4, Dict: 6144}, 60, "e0003b0023d0003a1a08a203b9a4dc64388c472f7634cb13718ed02c3d5afe207d20e37c454297c0000080003b00230065fc9d801d695f7174466f934c37128a981b8d337cf0d51b50724c5283c0d651f89e0080003b000e00b1c9e17afd16f4eb9b5ce3300000020008617320746861742e2000"},
		{strings.Repeat(was[:17], 30) + any, api.Lzma{Lc: 4, Lp: 0, Pb: 1, Dict: 1048576}, 128, "e0007f001831003a1a0907242799d48c10d0d72100e1c1d6362d7c4040000080007f000500ddb7fc000080007f000500dd9da176c080007f000700dc2da8848950000200158112ca1bbdcafac231b39a23dc4da786eff8147c4e7200"},
		{"aaaaaa" + any[:6] + "bbbbbb", api.Lzma{Lc: 3, Lp: 0, Pb: 2, Dict: 4096}, 6, "010005616161616161020005ca978112ca1b02000562626262626200"},
	} {
		is(t, []byte(e.text), e.p, e.piece, bytesOf(t, e.want))
	}
}
