package lzma2_test

import (
	"bytes"
	"encoding/hex"
	"math"
	"math/rand"
	"testing"

	"garbler/api"
	"garbler/lzma2"
)

func TestExamples(t *testing.T) {
	unpacked(t, "P11.4", []byte{0}, 0, 0, nil, true)
	unpacked(t, "P11.4", []byte{1, 0, 1, 'a', 'b', 0}, 0, 2, []byte("ab"), true)
	unpacked(t, "P11.4", []byte{2, 0, 0, 'a', 0}, 0, 1, nil, false)
	unpacked(t, "P11.4", nil, 0, 0, nil, false)
}

// TestSizes: just one is that of a stream; below 0 counts as 0.
func TestSizes(t *testing.T) {
	for _, k := range []*coder{
		newCoder(4096),
		newCoder(4096).plain(plainAnew, "a"),
		newCoder(4096).plain(plainAnew, "abc").plain(plain, "de"),
		newCoder(4096).packed(allAnew, usual, literals("abc")...),
		newCoder(4096).packed(allAnew, usual, append(literals("abc"), match(9, 1))...).plain(plainAnew, "x").packed(newProps, usual, again(0, 4)),
	} {
		for size := -3; size < len(k.told)+20; size++ {
			unpacked(t, "P11.4", k.stream(), 0, size, k.told, max(size, 0) == len(k.told))
		}
		for _, size := range []int{math.MinInt, -1 << 32, -1} {
			unpacked(t, "P11.4", k.stream(), 0, size, nil, len(k.told) == 0)
		}
		for _, size := range []int{1 << 16, 1 << 21, 1 << 32, 1 << 40} {
			unpacked(t, "P11.4", k.stream(), 0, size, nil, false)
			unpacked(t, "P11.4", k.stream(), 40, min(size, 1<<31), nil, false)
		}
		unpacked(t, "P11.4", k.stream(), 0, math.MaxInt, nil, false)
		unpacked(t, "P11.4", append(k.stream(), 0), 0, len(k.told), nil, false)
		unpacked(t, "P11.4", k.out, 0, len(k.told), nil, false)
	}
}

// TestQuotas: as much as New asks for is enough, one byte less isn't; then nothing is told, and nothing stays used.
func TestQuotas(t *testing.T) {
	k := newCoder(4096).plain(plainAnew, "abc").packed(newProps, usual, match(20, 1))
	for _, size := range []int{-1, 0, 1, len(k.told), 4096, 1 << 20} {
		m := meterOf(asked(0, size) - 1)
		if out, code := lzma2.Unpack(k.stream(), 0, size, m); len(out) != 0 || code != api.QMem || m.Used().Mem != 0 {
			t.Errorf("P11.4: size %d: %x, code %d, used %+v", size, out, code, m.Used())
		}
	}
	m := meterOf(asked(0, len(k.told)))
	for range 3 {
		if out, code := lzma2.Unpack(k.stream(), 0, len(k.told), m); !bytes.Equal(out, k.told) || code != api.OK || m.Used().Mem != 0 {
			t.Errorf("P11.4: %x, code %d, used %+v", out, code, m.Used())
		}
	}
}

// TestAnswersShareNothing: what was told before isn't written over.
func TestAnswersShareNothing(t *testing.T) {
	b := []byte{1, 0, 2, 'a', 'b', 'c', 0}
	one, _ := lzma2.Unpack(b, 0, 3, much())
	_ = append(one, 9, 9, 9)
	one[0] = 'x'
	two, _ := lzma2.Unpack(b, 0, 3, much())
	if string(one) != "xbc" || string(two) != "abc" || string(b) != "\x01\x00\x02abc\x00" {
		t.Errorf("P11.4: %q, %q, %x", one, two, b)
	}
}

// TestAnyStream: chunks of all kinds tell what was coded, and end there.
func TestAnyStream(t *testing.T) {
	for seed := range int64(500) {
		r := rand.New(rand.NewSource(seed))
		p := byte(r.Intn(4))
		dict, _ := lzma2.Dict(p)
		k := anyChunks(r, dict, r.Intn(12))
		b := k.stream()
		drawn(t, "P11.2", b, p, k.told, true)
		unpacked(t, "P11.4", b, p, len(k.told), k.told, true)
		unpacked(t, "P11.4", append(bytes.Clone(b), 0), p, len(k.told), nil, false)
		unpacked(t, "P11.4", b, p, len(k.told)+1, nil, false)
		unpacked(t, "P11.4", b, p, len(k.told)-1, nil, len(k.told) == 0)
		if told, ends := modelOf(b, dict, len(k.told)); !bytes.Equal(told, k.told) || !ends {
			t.Fatalf("seed %d: the model tells %d bytes, ends: %v", seed, len(told), ends)
		}
	}
}

// TestCutStreams: no beginning of a stream is one, but the whole.
func TestCutStreams(t *testing.T) {
	for seed := range int64(12) {
		r := rand.New(rand.NewSource(seed))
		k := anyChunks(r, 4096, 4)
		b := k.stream()
		for n := 0; n < len(b); n += 1 + r.Intn(1+len(b)/300) {
			told, ends := modelOf(b[:n], 4096, len(k.told))
			if ends || !bytes.HasPrefix(k.told, told) {
				t.Fatalf("seed %d: %d bytes of %d: the model ends: %v", seed, n, len(b), ends)
			}
			drawn(t, "P11.2", b[:n], 0, told, false)
			unpacked(t, "P11.4", b[:n], 0, len(k.told), nil, false)
			unpacked(t, "P11.4", b[:n], 0, len(told), nil, false)
		}
	}
}

// TestAnyBytesAreAsTheModelSays: streams with turned, missing and other bytes, and bytes that are none.
func TestAnyBytesAreAsTheModelSays(t *testing.T) {
	ends := map[bool]int{}
	for seed := range int64(5000) {
		r := rand.New(rand.NewSource(seed))
		p := byte(r.Intn(3))
		dict, _ := lzma2.Dict(p)
		b := anyChunks(r, dict, r.Intn(5)).stream()
		if r.Intn(10) > 0 {
			b = turned(r, b)
		}
		told, _ := modelOf(b, dict, math.MaxInt)
		size := len(told)
		if r.Intn(4) == 0 {
			size = r.Intn(2*size + 2)
		}
		told, whole := modelOf(b, dict, size)
		ok := whole && len(told) == size
		ends[ok]++
		unpacked(t, "P11.4", b, p, size, told, ok)
	}
	if ends[true] < 300 || ends[false] < 300 {
		t.Errorf("%v: too few of a kind", ends)
	}
}

// TestJoinedStreams: the chunks of some streams, one behind the other, tell what all of them do.
func TestJoinedStreams(t *testing.T) {
	for seed := range int64(300) {
		r := rand.New(rand.NewSource(seed))
		p := byte(r.Intn(4))
		dict, _ := lzma2.Dict(p)
		var out, told []byte
		for range 2 + r.Intn(3) {
			k := anyChunks(r, dict, r.Intn(5))
			unpacked(t, "P11.4", k.stream(), p, len(k.told), k.told, true)
			out, told = append(out, k.out...), append(told, k.told...)
		}
		out = append(out, 0)
		drawn(t, "P11.5", out, p, told, true)
		unpacked(t, "P11.5", out, p, len(told), told, true)
	}
}

// TestStreamsOfAnotherCoder: what a coder that is in wide use makes of some texts, and of the same joined.
func TestStreamsOfAnotherCoder(t *testing.T) {
	const was = "the window that was, the window that is, the window that will be: that was that. "
	const any = "\xca\x97\x81\x12\xca\x1b\xbd\xca\xfa\xc21\xb3\x9a#\xdcM\xa7\x86\xef\xf8\x14|Nr"
	var all []byte
	text := ""
	for _, e := range []struct{ stream, text string }{
		{"00", ""},
		{"010001616200", "ab"},
		{"e0004f002c5d003a1a08ce76fdacb62fa4ae3a66e23be88619b662c46559bf8a2d5ee389f0d2d2c8d9347f852965b45538fcc000", was[:len(was)-1]},
		{
			"e00050004c5d003a1a08ce76fdacb62fa4ae3a66e23be88619b662c46535a1cb6e0806f9bf09b4d3bfa9fff355ae9d68398fcbccd2c8c9e0e779341a1584dde22d60fb2b5fe291914cafbb041bcb51bc66976e" +
				"800064000600cc18f17d1000" +
				"020017ca978112ca1bbdcafac231b39a23dc4da786eff8147c4e72" +
				"a00057000e00b3f34a4e379d30f16f0e5c480000" +
				"800047002900ab460564ce0c9c67f215811a5b1fed7687dd02b10050c47bad6afb9228941d8bf9c24f0dff0e205fe2" +
				"c0005d00131200b3f39b29e0b30ea6abbe205783569953e90800" +
				"020017ca978112ca1bbdcafac231b39a23dc4da786eff8147c4e72" +
				"c000680007d000b5741180000000" +
				"800011000e008868bd2a506ea57e024498200000" +
				"00",
			was + was + was[:20] + any + was + "Not so." + was[4:40] + was[4:40] + was + "So, not that!" + any + any + was + "the end, the end. ",
		},
	} {
		b, err := hex.DecodeString(e.stream)
		if err != nil {
			t.Fatal(err)
		}
		unpacked(t, "P11.4", b, 8, len(e.text), []byte(e.text), true)
		all, text = append(all, b[:len(b)-1]...), text+e.text
	}
	unpacked(t, "P11.5", append(all, 0), 8, len(text), []byte(text), true)
}
