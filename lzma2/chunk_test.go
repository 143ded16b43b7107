package lzma2_test

import (
	"bytes"
	"math"
	"math/rand"
	"testing"

	"garbler/api"
	"garbler/lzma2"
	"garbler/lzmac"
)

// TestWhichChunkMayBe: every row of one to five chunks, each of which tells by what stands ahead of it as far as it may. The first that may not be is where it is bad.
func TestWhichChunkMayBe(t *testing.T) {
	kinds := []byte{plainAnew, plain, goesOn, newState, newProps, allAnew}
	rows := [][]byte{{}}
	bad := 0
	for n := range 5 {
		var longer [][]byte
		for _, row := range rows {
			for _, c := range kinds {
				longer = append(longer, append(bytes.Clone(row), c))
			}
		}
		rows = longer
		for _, row := range rows {
			may := howMany(row)
			k, told := newCoder(4096), []byte{}
			for i, c := range row {
				k.someChunk(i, c)
				if i < may {
					told = bytes.Clone(k.told)
				}
			}
			drawn(t, "P11.2", k.stream(), 0, told, may == n+1)
			unpacked(t, "P11.4", k.stream(), 0, len(k.told), k.told, may == n+1)
			if may <= n {
				bad++
			}
		}
	}
	if good := 6 + 36 + 216 + 1296 + 7776 - bad; bad < 1000 || good < 1000 {
		t.Errorf("%d are bad, %d aren't", bad, good)
	}
}

// howMany: how many chunks of a row may be there, till one may not. Which one may hangs on the last one ahead that is no plain one, or empties.
func howMany(row []byte) int {
	may := []byte{plainAnew, allAnew}
	for i, c := range row {
		if bytes.IndexByte(may, c) < 0 {
			return i
		}
		switch c {
		case plain:
		case plainAnew:
			may = []byte{plainAnew, plain, newProps, allAnew}
		default:
			may = []byte{plainAnew, plain, goesOn, newState, newProps, allAnew}
		}
	}
	return len(row)
}

// someChunk: a chunk that hangs on what stands ahead: on the place, the state, the distances and the bytes.
func (k *coder) someChunk(i int, c byte) {
	if c < 128 {
		k.plain(c, "some plain"[i:])
		return
	}
	p := []api.Lzma{{Lc: 3, Pb: 2}, {Lp: 2, Pb: 1}, {Lc: 1, Lp: 3, Pb: 4}, {Lc: 4}, {Pb: 3}}[i]
	list := []api.Packet{again(0, 2), again(1, 3), {Byte: byte('p' + i)}, match(5, uint32(i)), again(1, 3), match(3, 7), {Kind: api.Single}, again(2, 2)}
	k.packed(c, p, list[i%3:]...)
}

// TestFirstBytes: 3 to 127 are bad, wherever they stand, and whatever stands behind them; the byte 0 is the end.
func TestFirstBytes(t *testing.T) {
	behinds := []string{"", "\x00", "\x00\x00a\x00", "\x00\x00\x00\x05\x00\x00\x00\x00\x00\x00\x00", "\x00\x00\x00\x05\x5d\x00\x00\x00\x00\x00\x00\x00"}
	heads := []*coder{newCoder(4096), newCoder(4096).plain(plainAnew, "abc"), newCoder(4096).packed(allAnew, usual, literals("abc")...)}
	for _, k := range heads {
		for c := 3; c < 128; c++ {
			for _, behind := range behinds {
				b := append(append(bytes.Clone(k.out), byte(c)), behind...)
				wrong(t, "P11.2", b, string(k.told))
				unpacked(t, "P11.4", b, 0, len(k.told), nil, false)
				unpacked(t, "P11.4", b, 0, len(k.told)+1, nil, false)
			}
		}
		drawn(t, "P11.2", k.stream(), 0, k.told, true)
	}
}

// TestCountsOfPlainChunks: of which the greater byte comes first.
func TestCountsOfPlainChunks(t *testing.T) {
	text := make([]byte, 65536)
	rand.New(rand.NewSource(1)).Read(text)
	for _, n := range []int{1, 2, 3, 255, 256, 257, 258, 511, 512, 513, 4096, 65279, 65280, 65281, 65535, 65536} {
		k := newCoder(4096).plain(plainAnew, string(text[:n])).plain(plain, string(text[65536-n:]))
		if k.out[1] != byte((n-1)/256) || k.out[2] != byte((n-1)%256) {
			t.Fatalf("%x", k.out[:3])
		}
		drawn(t, "P11.2", k.stream(), 0, k.told, true)
		unpacked(t, "P11.4", k.stream(), 0, 2*n, k.told, true)
	}
}

// TestCountsOfPackedChunks: how many bytes are told has 21 bits, of which the first byte has the greatest.
func TestCountsOfPackedChunks(t *testing.T) {
	for _, n := range []int{1, 2, 3, 255, 256, 257, 65535, 65536, 65537, 65792, 131072, 131073, 1<<20 + 1, 1<<21 - 65536, 1<<21 - 65535, 1<<21 - 1, 1 << 21} {
		for _, c := range []byte{goesOn, newState, newProps, allAnew} {
			k := newCoder(4096).packed(allAnew, usual, literals("xy")...)
			from := k.begin(c, usual)
			k.c.Code(literals("z")[0])
			for left := n - 1; left > 0; {
				l := min(left, 273)
				if left == 274 { // one byte alone has no length
					l = 272
				}
				x := again(0, l)
				if l == 1 {
					x = api.Packet{Kind: api.Single}
				}
				if !k.c.Code(x) {
					t.Fatalf("%+v doesn't fit", x)
				}
				left -= l
			}
			ahead := len(k.out)
			k.end(c, from)
			if len(k.told) != n+2 || k.out[ahead] != c+byte((n-1)/65536) {
				t.Fatalf("%d bytes, head %x", len(k.told), k.out[ahead:ahead+5])
			}
			unpacked(t, "P11.4", k.stream(), 0, n+2, k.told, true)
		}
	}
}

// TestCountsOfPackedBytes: 16 bits.
func TestCountsOfPackedBytes(t *testing.T) {
	r := rand.New(rand.NewSource(5))
	for _, room := range []int{6, 7, 255, 256, 257, 258, 512, 513, 65535, 65536} {
		k := newCoder(4096)
		n := k.begin(allAnew, usual)
		for k.c.Count() < room {
			k.c.Code(api.Packet{Byte: byte(r.Intn(256))})
		}
		if k.c.Count() != room {
			t.Fatalf("%d bytes, not %d", k.c.Count(), room)
		}
		k.end(allAnew, n)
		drawn(t, "P11.2", k.stream(), 0, k.told, true)
		unpacked(t, "P11.4", k.stream(), 0, len(k.told), k.told, true)
	}
}

// TestFivePackedBytes: as many as a range decoder begins with: they may tell something, where that is likely; fewer never do.
func TestFivePackedBytes(t *testing.T) {
	k := newCoder(4096).packed(allAnew, usual, literals("a")...)
	for range 20 {
		k.packed(goesOn, usual, again(0, 273))
	}
	if head := k.out[len(k.out)-10:]; !bytes.HasPrefix(head, []byte{goesOn, 1, 16, 0, 4}) {
		t.Fatalf("the last chunk: %x", head)
	}
	drawn(t, "P11.2", k.stream(), 0, k.told, true)
	for n := range 4 {
		b := append(packedHead(allAnew, 1, n+1, usual), make([]byte, n+1)...)
		wrong(t, "P11.2", append(b, 0), "")
		wrong(t, "P11.2", append(b, 0, 0, 0, 0, 0, 0), "")
	}
}

// TestOtherCountsThanThereAre: of what is told, and of packed bytes, one more, one fewer, and others.
func TestOtherCountsThanThereAre(t *testing.T) {
	list := append(literals("abcde"), match(6, 3), again(0, 2))
	for _, c := range []byte{newProps, allAnew} {
		k := newCoder(4096)
		if c == newProps {
			k.plain(plainAnew, "xyz")
		}
		ahead, aheadTold := bytes.Clone(k.out), len(k.told)
		k.packed(c, usual, list...)
		b := k.out[len(ahead)+6:]
		for _, more := range []int{-6, -2, -1, 1, 2, 9, 256, 65536} {
			n := len(k.told) - aheadTold + more
			out := append(append(bytes.Clone(ahead), packedHead(c, n, len(b), usual)...), b...)
			if more < 0 {
				wrong(t, "P11.2", append(out, 0), string(k.told[:len(k.told)+more]))
				unpacked(t, "P11.4", append(out, 0), 0, len(k.told)+more, nil, false)
			}
			unpacked(t, "P11.4", append(out, 0), 0, len(k.told)+more, nil, false)
			unpacked(t, "P11.4", append(out, 0), 0, len(k.told), nil, false)
		}
		for _, more := range []int{-1, 1, 2, 3, 4, 100} { // what comes behind is packed, too, or a first byte of a chunk
			n := len(k.told) - aheadTold
			for _, behind := range []string{"\x00", "\x00\x00\x00\x00\x00", "\x02\x00\x00a\x00", ""} {
				out := append(append(bytes.Clone(ahead), packedHead(c, n, len(b)+more, usual)...), b...)
				out = append(out, behind...)
				told, ends := modelOf(out, 4096, n+10)
				if ends || len(told) > len(k.told) || more > 0 && len(told) != len(k.told) {
					t.Fatalf("%d told, ends: %v", len(told), ends)
				}
				wrong(t, "P11.2", out, string(told))
				unpacked(t, "P11.4", out, 0, n+aheadTold, nil, false)
			}
		}
	}
}

// TestMissingPackedBytesAreNotTakenFromBehind: a chunk with a packed byte fewer is bad, even if just that one stands behind it.
func TestMissingPackedBytesAreNotTakenFromBehind(t *testing.T) {
	seen := 0
	for last := range 256 {
		k := newCoder(4096).packed(allAnew, usual, append(literals("abc"), api.Packet{Byte: byte(last)})...)
		b := k.out[6:]
		if b[len(b)-1] > 2 {
			continue
		}
		seen++
		out := append(packedHead(allAnew, 4, len(b)-1, usual), b...) // its last byte is a first byte of a chunk now
		out = append(out, 0, 0, 'x', 0)
		told, _ := modelOf(out, 4096, 10)
		wrong(t, "P11.2", out, string(told))
		unpacked(t, "P11.4", out, 0, 4, nil, false)
		unpacked(t, "P11.4", out, 0, 5, nil, false)
	}
	if seen == 0 {
		t.Error("there is no such chunk")
	}
}

// TestRangeDecoderIsDone: packed bytes that tell just as much, but leave a code.
func TestRangeDecoderIsDone(t *testing.T) {
	for add := 1; add < 256; add++ {
		k := newCoder(4096).packed(allAnew, usual, literals("abc")...)
		good := bytes.Clone(k.out)
		k.out[len(k.out)-1] += byte(add)
		told, ends := modelOf(k.stream(), 4096, 3)
		if ends {
			t.Fatal("the code is 0")
		}
		wrong(t, "P11.2", k.stream(), string(told))
		if add == 1 && string(told) != "abc" {
			t.Fatalf("%q", told)
		}
		unpacked(t, "P11.4", k.stream(), 0, 3, nil, false)
		unpacked(t, "P11.4", append(append(bytes.Clone(k.out), good...), 0), 0, 6, nil, false)
		unpacked(t, "P11.4", append(append(bytes.Clone(good), good...), 0), 0, 6, []byte("abcabc"), true)
	}
}

// TestEndMarks: no chunk has one, neither ahead of its bytes, nor among them, nor behind them.
func TestEndMarks(t *testing.T) {
	end := api.Packet{Kind: api.End}
	for at := range 4 {
		c, _ := lzmac.New(usual)
		for i, x := range literals("abc") {
			if i == at {
				break
			}
			c.Code(x)
		}
		c.Code(end)
		b := c.Finish()
		for n := max(at, 1); n <= 4; n++ {
			out := append(append(packedHead(allAnew, n, len(b), usual), b...), 0)
			wrong(t, "P11.2", out, "abc"[:at])
			unpacked(t, "P11.4", out, 0, n, nil, false)
			unpacked(t, "P11.4", out, 0, at, nil, false)
		}
	}
}

// TestEachSetting: just those below 225 may be, of which Lc and Lp are 4 together at most; the others are bad.
func TestEachSetting(t *testing.T) {
	may := map[byte]api.Lzma{}
	for _, p := range settings() {
		may[propOf(p)] = p
	}
	if len(may) != 75 {
		t.Fatalf("%d settings", len(may))
	}
	for v := range 256 {
		for _, c := range []byte{newProps, allAnew} {
			p, ok := may[byte(v)]
			if !ok && v < 225 {
				p = api.Lzma{Lc: v % 9, Lp: v / 9 % 5, Pb: v / 45}
			}
			r := rand.New(rand.NewSource(int64(v)))
			k := newCoder(4096).plain(plainAnew, "window")
			n := k.begin(c, p)
			for range 300 {
				k.c.Code(k.anyPacket(r, len(k.c.Told())))
			}
			ahead := len(k.out)
			k.end(c, n)
			k.out[ahead+5] = byte(v)
			if ok {
				drawn(t, "P11.2", k.stream(), 0, k.told, true)
			} else {
				wrong(t, "P11.2", k.stream(), "window")
			}
			unpacked(t, "P11.4", k.stream(), 0, len(k.told), k.told, ok)
		}
	}
}

// TestSettingStays: for chunks that bring none, whatever plain chunks stand between, till another one is brought.
func TestSettingStays(t *testing.T) {
	for i, p := range settings() {
		for _, q := range []api.Lzma{{Lc: 3, Pb: 2}, {Lp: 4}, {Lc: 4, Pb: 4}, {Lc: 1, Lp: 2, Pb: 1}} {
			r := rand.New(rand.NewSource(int64(i)))
			k := newCoder(4096)
			for j, c := range []byte{allAnew, goesOn, newState, plain, newState, goesOn, newProps, newState, plain, goesOn, allAnew, newState} {
				if c == plain {
					k.plain(c, "plain")
					continue
				}
				n := k.begin(c, []api.Lzma{p, q, q}[j/6])
				for range 30 {
					k.c.Code(k.anyPacket(r, len(k.told)))
				}
				k.end(c, n)
			}
			drawn(t, "P11.2", k.stream(), 0, k.told, true)
		}
	}
}

// TestWindowGoesOn: bytes of elder chunks are there, plain and packed ones, till the window is emptied.
func TestWindowGoesOn(t *testing.T) {
	for _, c := range []byte{goesOn, newState, newProps, allAnew} {
		for _, between := range []string{"", "plain", "emptied", "packed"} {
			for dist := range 16 {
				k := newCoder(4096).plain(plainAnew, "0123").packed(allAnew, usual, literals("abcd")...).plain(plain, "efgh")
				there := 8
				switch between {
				case "plain":
					k.plain(plain, "ij")
					there += 2
				case "emptied":
					k.plain(plainAnew, "kl")
					there = 2
				case "packed":
					k.packed(goesOn, usual, literals("mn")...)
					there += 2
				}
				if c == allAnew {
					there = 0
				}
				ahead := bytes.Clone(k.told)
				k.c.Put(make([]byte, 20)) // that the coder takes each distance
				n := len(k.c.Told())
				if c != goesOn {
					k.c.Reset(usual)
				}
				k.c.Code(match(2, uint32(dist)))
				k.end(c, n)
				if between == "emptied" && (c == goesOn || c == newState) || dist >= there {
					wrong(t, "P11.2", k.stream(), string(ahead))
					continue
				}
				at := len(ahead) - 1 - dist
				twice := append(bytes.Clone(ahead[at:]), ahead[at:]...)
				drawn(t, "P11.2", k.stream(), 0, append(ahead, twice[:2]...), true)
			}
		}
	}
}

// TestDictionaries: a copy may come from as far as a property's dictionary goes, and no further.
func TestDictionaries(t *testing.T) {
	text := make([]byte, 17000)
	rand.New(rand.NewSource(3)).Read(text)
	for p := range byte(5) {
		dict, _ := lzma2.Dict(p)
		for _, dist := range []int{0, 4095, 4096, 6143, 6144, 8191, 8192, 12287, 12288, 16383, 16384, 16999} {
			k := newCoder(1<<16).plain(plainAnew, string(text)).packed(newProps, usual, match(9, uint32(dist)))
			unpacked(t, "P11.4", k.stream(), p, len(k.told), k.told, dist < dict)
			if dist < dict {
				drawn(t, "P11.2", k.stream(), p, k.told, true)
			} else {
				drawn(t, "P11.2", k.stream(), p, text, false)
			}
		}
	}
	k := newCoder(math.MaxUint32).plain(plainAnew, string(text)).packed(newProps, usual, match(9, 16999))
	for _, p := range []byte{10, 39, 40} {
		unpacked(t, "P11.4", k.stream(), p, len(k.told), k.told, true)
	}
}
