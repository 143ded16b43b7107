package lzma2c_test

import (
	"slices"

	"garbler/api"
	"garbler/lzmac"
	"garbler/parse"
)

// modelOf: the chunks of bytes, by the chapter's words. Where state, distances and probabilities begin anew it takes a new coder, to which all that was ahead is put.
func modelOf(b []byte, p api.Lzma, size int) []byte {
	var out []byte
	var were []bool // of each piece ahead: whether it was packed
	var c *lzmac.Coder
	for from := 0; from < len(b); from += size {
		to := min(from+size, len(b))
		how := howBehind(were)
		if how != 0 {
			c, _ = lzmac.New(p)
			c.Put(b[:from])
		}
		list, _ := parse.Find(b, from, to, p.Dict, c.Reps())
		for _, x := range list {
			c.Code(x)
		}
		stream := c.Finish()
		pays := len(stream) < to-from
		if pays {
			out = append(out, packedHead(how, to-from, len(stream), p)...)
			out = append(out, stream...)
		} else {
			out = append(out, plainHead(len(were) == 0, to-from)...)
			out = append(out, b[from:to]...)
		}
		were = append(were, pays)
	}
	return append(out, 0)
}

// howBehind: the How of the piece behind these.
func howBehind(were []bool) int {
	switch {
	case len(were) == 0:
		return 3
	case !slices.Contains(were, true):
		return 2
	case !were[len(were)-1]:
		return 1
	}
	return 0
}

func packedHead(how, n, stream int, p api.Lzma) []byte {
	b := []byte{byte(128 + 32*how), byte((n - 1) / 256), byte((n - 1) % 256), byte((stream - 1) / 256), byte((stream - 1) % 256)}
	if how >= 2 {
		b = append(b, propOf(p))
	}
	return b
}

func propOf(p api.Lzma) byte { return byte((p.Pb*5+p.Lp)*9 + p.Lc) }

func plainHead(first bool, n int) []byte {
	c := byte(plain)
	if first {
		c = plainAnew
	}
	return []byte{c, byte((n - 1) / 256), byte((n - 1) % 256)}
}
