package lzma2c_test

import (
	"bytes"
	"slices"
	"testing"

	"garbler/api"
	"garbler/lzmac"
	"garbler/parse"
)

// row: pieces of 64 bytes: for a letter p those that are packed, for others those that aren't.
func row(kinds string) []byte {
	var b []byte
	for i := range len(kinds) {
		if kinds[i] == 'p' {
			b = append(b, bytes.Repeat([]byte{byte('a' + i)}, 64)...)
		} else {
			b = append(b, noise(int64(100+i), 64)...)
		}
	}
	return b
}

// TestHow: what each piece's chunk begins with, by what the ones ahead were.
func TestHow(t *testing.T) {
	for _, e := range []struct {
		kinds  string
		firsts []byte
	}{
		{"p", []byte{allAnew}},
		{"-", []byte{plainAnew}},
		{"pp", []byte{allAnew, goesOn}},
		{"-p", []byte{plainAnew, newProps}},
		{"p-", []byte{allAnew, plain}},
		{"--", []byte{plainAnew, plain}},
		{"--p", []byte{plainAnew, plain, newProps}},
		{"---p", []byte{plainAnew, plain, plain, newProps}},
		{"p-p", []byte{allAnew, plain, newState}},
		{"p--p", []byte{allAnew, plain, plain, newState}},
		{"-pp", []byte{plainAnew, newProps, goesOn}},
		{"-p-p", []byte{plainAnew, newProps, plain, newState}},
		{"--pp-pp--p-", []byte{plainAnew, plain, newProps, goesOn, plain, newState, goesOn, plain, plain, newState, plain}},
		{"ppp-ppp-p-pp", []byte{allAnew, goesOn, goesOn, plain, newState, goesOn, goesOn, plain, newState, plain, newState, goesOn}},
	} {
		if got := firsts(t, packed(t, row(e.kinds), usual, 64)); !bytes.Equal(got, e.firsts) {
			t.Errorf("P12.1: %s: %x, not %x", e.kinds, got, e.firsts)
		}
	}
}

// TestEveryRow: of up to seven pieces, packed ones and plain ones, the last one shorter or not.
func TestEveryRow(t *testing.T) {
	for n := range 8 {
		for which := range 1 << n {
			kinds := ""
			for i := range n {
				kinds += string("-p"[which>>i&1])
			}
			b := row(kinds)
			is(t, b, usual, 64, modelOf(b, usual, 64))
			if n > 0 {
				b = b[:len(b)-20]
				is(t, b, usual, 64, modelOf(b, usual, 64))
			}
		}
	}
}

// streamOf: the stream of bytes behind those that were put, with all anew.
func streamOf(t *testing.T, b []byte, from int, p api.Lzma) []byte {
	t.Helper()
	c, code := lzmac.New(p)
	if code != api.OK {
		t.Fatal(code)
	}
	c.Put(b[:from])
	list, _ := parse.Find(b, from, len(b), p.Dict, [4]uint32{})
	for _, x := range list {
		c.Code(x)
	}
	return c.Finish()
}

// TestFewerBytes: a piece whose stream has just as many bytes as it has, or more, is plain; with one byte fewer it is packed.
func TestFewerBytes(t *testing.T) {
	seen := map[int]int{}
	for n := 1; n < 60; n++ {
		for order := range n + 1 {
			b := joined(noise(int64(n), n-order), make([]byte, order))
			for _, ahead := range []int{0, n} { // the piece is the first one, or stands behind a plain one
				all := joined(noise(77, ahead), b)
				stream := streamOf(t, all, ahead, usual)
				seen[len(stream)-n]++
				want := joined(plainHead(true, n), b)
				if len(stream) < n {
					want = joined(packedHead(3, n, len(stream), usual), stream)
				}
				if ahead > 0 {
					want = joined(plainHead(true, n), all[:n], plainHead(false, n), b)
					if len(stream) < n {
						want = joined(plainHead(true, n), all[:n], packedHead(2, n, len(stream), usual), stream)
					}
				}
				if len(firsts(t, packed(t, all[:ahead], usual, n))) != ahead/n {
					t.Fatalf("%d bytes ahead of %d", ahead, n)
				}
				is(t, all, usual, n, append(want, 0))
			}
		}
	}
	for _, more := range []int{-2, -1, 0, 1, 2} {
		if seen[more] < 10 {
			t.Errorf("%d streams have %d bytes more than the piece", seen[more], more)
		}
	}
	is(t, make([]byte, 5), usual, 5, []byte{plainAnew, 0, 4, 0, 0, 0, 0, 0, 0})
}

// TestCounts: of bytes that are told, and of packed ones; the last piece has the rest.
func TestCounts(t *testing.T) {
	for _, piece := range []int{1, 2, 64, 255, 256, 257, 511, 512, 513, 4096, 65535, 65536} {
		for _, n := range []int{1, piece - 1, piece, piece + 1, 2*piece - 1, 2 * piece, 2*piece + 1} {
			if n < 1 {
				continue
			}
			left := n
			for _, h := range heads(t, packed(t, noise(5, n), usual, piece)) {
				if want := min(piece, left); h.told != want || h.first > plain {
					t.Fatalf("P12.1: %d bytes, pieces of %d: a chunk %+v, %d are left", n, piece, h, left)
				}
				left -= h.told
			}
			for _, h := range heads(t, packed(t, make([]byte, n), usual, piece)) {
				left += h.told
				if h.told != min(piece, n-left+h.told) || h.told > 20 && h.first < goesOn {
					t.Fatalf("P12.1: %d bytes 0, pieces of %d: a chunk %+v", n, piece, h)
				}
			}
			if left != n {
				t.Fatalf("P12.1: %d bytes, pieces of %d: chunks of %d", n, piece, left)
			}
		}
	}
}

// TestLongStreams: nearly as long as the longest piece, and at both sides of a count's byte.
func TestLongStreams(t *testing.T) {
	seen := map[int]bool{}
	sizes := []int{500, 30000, 64000}
	for n := range 100 {
		sizes = append(sizes, 100+n)
	}
	for _, n := range sizes {
		b := joined(noise(6, n), make([]byte, 65536-n))
		list := heads(t, packed(t, b, within(1<<20), 65536))
		if len(list) != 1 || list[0].first != allAnew || list[0].told != 65536 || list[0].stream < n {
			t.Fatalf("P12.1: %d bytes of no order, and bytes 0: chunks %+v", n, list)
		}
		seen[list[0].stream] = true
	}
	if !seen[256] || !seen[257] {
		t.Errorf("P12.1: streams of so many bytes: %v", seen)
	}
}

// TestDictionary: a copy from all that it has is told, one of a byte more isn't. The property's own dictionary, which may have more, doesn't matter.
func TestDictionary(t *testing.T) {
	text := noise(7, 256)
	for _, dict := range []int{4096, 4097, 5000, 6144, 6145} {
		for ahead := dict - 2; ahead <= dict+2; ahead++ { // so many bytes lie from copy to copy
			b := joined(text, noise(8, ahead-256), text)
			is(t, b, within(dict), 64, modelOf(b, within(dict), 64))
			last := slices.Max(firsts(t, packed(t, b, within(dict), 64)))
			if near := ahead <= dict; near != (last >= goesOn) {
				t.Errorf("P12.1: dictionary %d, %d bytes from copy to copy: a chunk %x", dict, ahead, last)
			}
		}
	}
}

// TestGoesOn: pieces behind packed ones go on with probabilities, state and distances; those behind plain ones, with bytes alone.
func TestGoesOn(t *testing.T) {
	text := noise(9, 40)
	b := bytes.Repeat(text, 40)
	list := heads(t, packed(t, b, usual, 200))
	for i, h := range list[1:] {
		if h.first != goesOn || h.stream > 6 { // but for the first one all are one copy at the first elder distance
			t.Errorf("P12.1: piece %d: %+v", i+1, h)
		}
	}
	late := joined(noise(10, 200), noise(11, 200), noise(10, 200))
	list = heads(t, packed(t, late, usual, 200))
	if len(list) != 3 || list[2].first != newProps || list[2].stream > 12 {
		t.Errorf("P12.1: bytes of a plain piece aren't copied: %+v", list)
	}
	anew := joined(b[:400], noise(12, 200), b[:200])
	is(t, anew, usual, 200, modelOf(anew, usual, 200))
	list = heads(t, packed(t, anew, usual, 200))
	if last := list[len(list)-1]; last.first != newState || last.stream > 12 {
		t.Errorf("P12.1: bytes ahead of a plain piece aren't copied: %+v", list)
	}
}
