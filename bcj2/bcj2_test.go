package bcj2_test

import (
	"bytes"
	"encoding/hex"
	"math"
	"math/rand"
	"strings"
	"testing"

	"garbler/api"
	"garbler/bcj2"
	"garbler/rdec"
	"garbler/renc"
)

// coded: the four streams of bytes, which are left as they were; they are held against the model, and decoded.
func coded(t *testing.T, b []byte) api.Four {
	t.Helper()
	was := bytes.Clone(b)
	s := bcj2.Code(b)
	if !bytes.Equal(b, was) {
		t.Fatalf("P15.3: what was handed in is %x, was %x", short(b), short(was))
	}
	if want := modelCoded(b); !equal(s, want) {
		t.Fatalf("P15.3: %x coded: Main %x, Call %x, Jump %x, Code %x; not %x, %x, %x, %x", short(b), short(s.Main), short(s.Call), short(s.Jump), short(s.Code), short(want.Main), short(want.Call), short(want.Jump), short(want.Code))
	}
	if n := len(s.Main) + len(s.Call) + len(s.Jump); n != len(b) {
		t.Fatalf("P15.4: %x: %d bytes, %d were there", short(b), n, len(b))
	}
	decodes(t, "P15.4", s, b)
	return s
}

// decodes holds that four streams tell b.
func decodes(t *testing.T, promise string, s api.Four, b []byte) {
	t.Helper()
	out, code := bcj2.Decode(s, len(b))
	if code != api.OK || !bytes.Equal(out, b) {
		t.Fatalf("%s: Main %x, Call %x, Jump %x, Code %x of size %d: code %d, %x, not %x", promise, short(s.Main), short(s.Call), short(s.Jump), short(s.Code), len(b), code, short(out), short(b))
	}
}

// refused holds that four streams aren't decoded.
func refused(t *testing.T, s api.Four, size int) {
	t.Helper()
	if out, code := bcj2.Decode(s, size); code != api.Data || len(out) > 0 {
		t.Fatalf("P15.2: Main %x, Call %x, Jump %x, Code %x of size %d: code %d, %x", short(s.Main), short(s.Call), short(s.Jump), short(s.Code), size, code, short(out))
	}
}

// asModel holds a decoding of any four streams against the model's; whether they were decoded.
func asModel(t *testing.T, s api.Four, size int) bool {
	t.Helper()
	was := clone(s)
	told, ok := modelTold(s, size)
	if ok {
		decodes(t, "P15.2", s, told)
	} else {
		refused(t, s, size)
	}
	if !equal(s, was) {
		t.Fatalf("P15.2: Main %x, Call %x, Jump %x, Code %x were handed in, and are others", short(was.Main), short(was.Call), short(was.Jump), short(was.Code))
	}
	return ok
}

// bitsCoded: bits coded one behind the other, each told as a probability's name and + or -.
func bitsCoded(list string) []byte {
	c, chances := renc.New(), map[string]*uint16{}
	for _, x := range strings.Fields(list) {
		name, bit := x[:len(x)-1], strings.IndexByte("-+", x[len(x)-1])
		if chances[name] == nil {
			chances[name] = &rdec.Fresh(1)[0]
		}
		c.Bit(chances[name], bit)
	}
	return c.Finish()
}

// TestRowsWrittenOut: bytes, their streams Main, Call and Jump, and the bits of Code: those of a call behind a byte (c and that byte), of E9 (j), of the other jumps (f).
func TestRowsWrittenOut(t *testing.T) {
	for _, e := range []struct{ plain, main, call, jump, bits string }{
		// the chapter's
		{"", "", "", "", ""},
		{"e800000000", "e800000000", "", "", "c00-"},
		{"e8fbffffff", "e8", "00000000", "", "c00+"},

		// each instruction, and the bytes about it
		{"e9fbffffff", "e9", "", "00000000", "j+"},
		{"0f80faffffff", "0f80", "", "00000000", "f+"},
		{"0f85faffffff", "0f85", "", "00000000", "f+"},
		{"0f8ffaffffff", "0f8f", "", "00000000", "f+"},
		{"0f7ffaffffff", "0f7ffaffffff", "", "", ""},
		{"0f90faffffff", "0f90faffffff", "", "", ""},
		{"0e80faffffff", "0e80faffffff", "", "", ""},
		{"1f80faffffff", "1f80faffffff", "", "", ""},
		{"8080faffffff", "8080faffffff", "", "", ""},
		{"80fbffffff", "80fbffffff", "", "", ""},
		{"8ffbffffff", "8ffbffffff", "", "", ""},
		{"e7fbffffff", "e7fbffffff", "", "", ""},
		{"eafbffffff", "eafbffffff", "", "", ""},
		{"68fbffffff", "68fbffffff", "", "", ""},
		{"0fe8faffffff", "0fe8", "00000000", "", "c0f+"},
		{"0fe9faffffff", "0fe9", "", "00000000", "j+"},
		{"0f0f84f9ffffff", "0f0f84", "", "00000000", "f+"},

		// a place is one of the bytes, or the target stays
		{"e8ffffffff", "e8", "00000004", "", "c00+"},
		{"e8faffffff", "e8faffffff", "", "", "c00-"},
		{"e8fbffff7f", "e8fbffff7f", "", "", "c00-"},
		{"e8fbfffffe", "e8fbfffffe", "", "", "c00-"},
		{"9090e80000000090909090", "9090e890909090", "00000007", "", "c90+"},
		{"9090e80300000090909090", "9090e890909090", "0000000a", "", "c90+"},
		{"9090e80400000090909090", "9090e80400000090909090", "", "", "c90-"},
		{"9090e9f9ffffff", "9090e9", "", "00000000", "j+"},
		{"9090e9f8ffffff", "9090e9f8ffffff", "", "", "j-"},
		{"9090e9ffffffff", "9090e9", "", "00000006", "j+"},

		// with fewer than four bytes behind it a target stays; the last byte has no bit
		{"e8", "e8", "", "", ""},
		{"e8fb", "e8fb", "", "", "c00-"},
		{"e8fbff", "e8fbff", "", "", "c00-"},
		{"e8fbffff", "e8fbffff", "", "", "c00-"},
		{"0f84", "0f84", "", "", ""},
		{"0f84faffff", "0f84faffff", "", "", "f-"},
		{"e8f9ffffffe9", "e8f9ffffffe9", "", "", "c00-"},
		{"e8fbffffffe9", "e8e9", "00000000", "", "c00+"},
		{"e8fbffffffe9e9", "e8e9e9", "00000000", "", "c00+ j-"},

		// a target that stays has instructions, one that stands apart has none
		{"e8e8faffffff", "e8e8", "00000000", "", "c00- ce8+"},
		{"e8e9faffffff", "e8e9", "", "00000000", "c00- j+"},
		{"e9e8faffffff", "e9e8", "00000000", "", "j- ce9+"},
		{"e90f85f9ffffff", "e90f85", "", "00000000", "j- f+"},
		{"e9e9e9f9ffffff", "e9e9e9", "", "00000000", "j- j- j+"},
		{"e8e8e8f9ffffff", "e8e8e8", "00000000", "", "c00- ce8- ce8+"},
		{"0f840f84f8ffffff", "0f840f84", "", "00000000", "f- f+"},
		{"e8e9000000" + zeros(234), "e8" + zeros(234), "000000ee", "", "c00+"},
		{"e9e8000000" + zeros(233), "e9" + zeros(233), "", "000000ed", "j+"},

		// behind a target that stands apart its greatest byte is the one ahead
		{"e8fbffffffe8f6ffffff", "e8e8", "0000000000000000", "", "c00+ cff+"},
		{"e8fbffffffe9f6ffffff", "e8e9", "00000000", "00000000", "c00+ j+"},
		{"e9fbffffffe8f6ffffff", "e9e8", "00000000", "00000000", "j+ cff+"},
		{"e800000001e8f6ffffff", "e800000001e8", "00000000", "", "c00- c01+"},
		{"e9fbffffffe9f6ffffff", "e9e9", "", "0000000000000000", "j+ j+"},
		{"e90000000ff0000000e8f2ffffff", "e90000000ff0000000e8", "00000000", "", "j- c00+"},
		{"e90000000f84f6ffffff", "e90000000f84", "", "00000000", "j- f+"},
	} {
		plain, _ := hex.DecodeString(e.plain)
		s := bcj2.Code(plain)
		got := [4]string{hex.EncodeToString(s.Main), hex.EncodeToString(s.Call), hex.EncodeToString(s.Jump), hex.EncodeToString(s.Code)}
		want := [4]string{e.main, e.call, e.jump, hex.EncodeToString(bitsCoded(e.bits))}
		if got != want {
			t.Errorf("P15.3: %s coded: %v, not %v", e.plain, got, want)
		}
		coded(t, plain)
	}
}

// zeros: so many bytes 0.
func zeros(n int) string { return strings.Repeat("00", n) }

// TestBytesOfCode: the chapters' own.
func TestBytesOfCode(t *testing.T) {
	for plain, want := range map[string]string{"": "0000000000", "90": "0000000000", "e8fbffffff": "007ffffc00", "90e9faffffff": "007ffffc00"} {
		b, _ := hex.DecodeString(plain)
		if got := hex.EncodeToString(bcj2.Code(b).Code); got != want {
			t.Errorf("P15.3: %s: Code %s, not %s", plain, got, want)
		}
	}
}

// TestTargetThatEndsWith0F: behind one that stands apart a byte may be a jump, too. Only of very long rows the coder lays such a target apart; a decoder takes it anyway.
func TestTargetThatEndsWith0F(t *testing.T) {
	all := func(int64) bool { return true }
	for _, e := range []struct {
		plain, main, call, jump, bits string
	}{
		{"e80000000f84f6ffffff", "e884", "0f000005", "00000000", "c00+ f+"},
		{"e9fb00000fe8f6ffffff", "e9e8", "00000000", "0f000100", "j+ c0f+"},
		{"e9fbffff0ee8f6ffffff", "e9e8", "00000000", "0f000000", "j+ c0e+"},
		{"e8fbffff0e84f6ffffff", "e884f6ffffff", "0f000000", "", "c00+"},
	} {
		plain, _ := hex.DecodeString(e.plain)
		s := laid(plain, all)
		got := [4]string{hex.EncodeToString(s.Main), hex.EncodeToString(s.Call), hex.EncodeToString(s.Jump), hex.EncodeToString(s.Code)}
		want := [4]string{e.main, e.call, e.jump, hex.EncodeToString(bitsCoded(e.bits))}
		if got != want {
			t.Errorf("%s laid: %v, not %v", e.plain, got, want)
		}
		decodes(t, "P15.2", s, plain)
	}
}

// TestLittleRows: every row of some kinds of bytes.
func TestLittleRows(t *testing.T) {
	for _, e := range []struct {
		kinds []byte
		most  int
	}{
		{[]byte{0xe8, 0}, 13},
		{[]byte{0x0f, 0x84}, 12},
		{[]byte{0xe9, 0xff, 0xf7}, 9},
		{[]byte{0xe8, 0, 0xff, 0xfb}, 7},
		{[]byte{0x0f, 0x8f, 0xff, 0xf6}, 7},
		{[]byte{0xe8, 0xe9, 0x0f, 0x80, 0, 0xff}, 6},
	} {
		each(e.kinds, e.most, func(b []byte) { coded(t, b) })
	}
}

func TestRowsWithoutOrder(t *testing.T) {
	seed := int64(0)
	for _, kinds := range some() {
		for n := range 60 {
			for range 20 {
				seed++
				coded(t, row(seed, n, kinds))
			}
		}
		for _, n := range []int{255, 256, 257, 1000, 70000} {
			seed++
			coded(t, row(seed, n, kinds))
		}
	}
}

// TestEachByteAsInstruction: each byte behind each, with a place that is one of the bytes.
func TestEachByteAsInstruction(t *testing.T) {
	for ahead := range 256 {
		for x := range 256 {
			b := []byte{byte(ahead), byte(x), 0xfa, 0xff, 0xff, 0xff}
			s := coded(t, b)
			apart := x == 0xe8 || x == 0xe9 || ahead == 0x0f && x >= 0x80 && x <= 0x8f
			if first := ahead == 0xe8 || ahead == 0xe9; !first && (len(s.Main) == 2) != apart {
				t.Fatalf("P15.3: %x: Main %x", b, s.Main)
			}
		}
	}
}

// withTarget: so many bytes, of which the one at a place is an instruction with a target.
func withTarget(n int, kind byte, at int, target int64) []byte {
	b := bytes.Repeat([]byte{0x90}, n)
	b[at] = kind
	for j := range 4 {
		b[at+1+j] = byte(target >> (8 * j))
	}
	return b
}

// TestPlacesAboutTheirEnds: just those from 0 on, up to the last byte's, are laid apart.
func TestPlacesAboutTheirEnds(t *testing.T) {
	for _, n := range []int{5, 6, 9, 255, 256, 257, 300, 65535, 65536, 65537} {
		for _, at := range []int{0, 1, n - 6, n - 5} {
			if at < 0 || at+5 > n {
				continue
			}
			for _, place := range []int64{-1 << 31, -65536, -256, -2, -1, 0, 1, 2, 255, 256, int64(n) - 2, int64(n) - 1, int64(n), int64(n) + 1, int64(n) + 256, 1<<24 + 1, 1<<31 - 1} {
				s := coded(t, withTarget(n, 0xe8, at, place-int64(at)-5))
				if apart := len(s.Call) == 4; apart != (0 <= place && place < int64(n)) {
					t.Fatalf("P15.3: %d bytes, a call at %d of the place %d: stands apart: %v", n, at, place, apart)
				}
			}
		}
	}
}

// far: a row beyond 2^24 bytes, with instructions about each place at which another byte of it comes over.
func far() []byte {
	kinds := some()
	b := bytes.Repeat([]byte{0x90}, 1<<24+5000)
	for bit := 7; bit <= 24; bit++ {
		copy(b[1<<bit-64:], row(int64(bit), 128, kinds[len(kinds)-2]))
		copy(b[1<<bit+80:], []byte{0xe8, 0, byte(bit), 0, 0, 0xe9, 0xc0, 0, 0xff, 0xff, 0x0f, 0x8a, 0, 0, 0xff, 0xff})
	}
	copy(b[1<<24+3000:], []byte{0xe8, 0, 0, 0, 0xff, 0xe8, 0, 1, 0, 0xff, 0xe9, 0, 0, 0, 0})
	copy(b[1<<24+4000:], row(1, 900, kinds[8]))
	return b
}

func TestFarPlaces(t *testing.T) {
	b := far()
	s := coded(t, b)
	if n := len(s.Call) + len(s.Jump); n < 300 {
		t.Errorf("%d bytes of places: too few to say something", n)
	}
}

// anyhow: whether a target stands apart, by chance alone.
func anyhow(r *rand.Rand) func(int64) bool {
	return func(int64) bool { return r.Intn(2) == 0 }
}

// TestTargetsThatStandApartAnyhow: a decoder takes what no coder lays apart: places beyond the bytes; and what stays though its place is one of them.
func TestTargetsThatStandApartAnyhow(t *testing.T) {
	seed := int64(0)
	for _, kinds := range some() {
		for n := range 80 {
			for range 10 {
				seed++
				b := row(seed, n, kinds)
				decodes(t, "P15.2", laid(b, anyhow(rand.New(rand.NewSource(seed)))), b)
				decodes(t, "P15.2", laid(b, func(int64) bool { return true }), b)
				decodes(t, "P15.2", laid(b, func(int64) bool { return false }), b)
			}
		}
	}
	b := far()[1<<24-3000:]
	decodes(t, "P15.2", laid(b, anyhow(rand.New(rand.NewSource(1)))), b)
}

// TestStreamsThatDontEnd: a byte more or fewer of any stream, and any other size.
func TestStreamsThatDontEnd(t *testing.T) {
	seed := int64(0)
	for _, kinds := range some() {
		for n := range 50 {
			seed++
			b := row(seed, n, kinds)
			s := laid(b, anyhow(rand.New(rand.NewSource(seed))))
			decodes(t, "P15.2", s, b)
			for i := range lists(&s) {
				more := clone(s)
				l := lists(&more)[i]
				for _, x := range []byte{0, 0xe8, 0xff} {
					*l = append(bytes.Clone(*lists(&s)[i]), x)
					refused(t, more, n)
				}
				*l = append([]byte{0}, *lists(&s)[i]...)
				asModel(t, more, n)
				for k := 1; k <= 4 && k <= len(*lists(&s)[i]); k++ {
					*l = (*lists(&s)[i])[:len(*lists(&s)[i])-k]
					refused(t, more, n)
				}
				*l = nil
				asModel(t, more, n)
			}
			for _, size := range []int{0, n - 5, n - 4, n - 3, n - 2, n - 1, n + 1, n + 2, n + 3, n + 4, n + 5, math.MaxInt32, math.MaxInt} {
				if size != n && !(size <= 0 && n == 0) {
					refused(t, s, size)
				}
			}
		}
	}
}

// TestCodesThatArentDone: the bits are right, but a code is left; and a code that isn't below the range, or doesn't begin with a byte 0, is bad.
func TestCodesThatArentDone(t *testing.T) {
	for _, e := range []struct {
		code string
		ok   bool
	}{
		{"0000000000", true},
		{"0000000001", false},
		{"0000000100", false},
		{"00fffffffe", false},
		{"00ffffffff", false},
		{"0100000000", false},
		{"ff00000000", false},
		{"000000000000", false},
		{"00000000", false},
		{"00", false},
		{"", false},
	} {
		code, _ := hex.DecodeString(e.code)
		for _, main := range []string{"", "abc", "e8", "0f84", "e8abc"} {
			b := []byte(main)
			if strings.HasPrefix(main, "e8") || strings.HasPrefix(main, "0f") {
				b, _ = hex.DecodeString(main[:len(main)&^1])
			}
			if ok := asModel(t, api.Four{Main: b, Code: code}, len(b)); ok != e.ok {
				t.Errorf("P15.2: Main %x, Code %s: %v", b, e.code, ok)
			}
		}
	}
	for add := 1; add < 256; add++ {
		b := withTarget(9, 0xe8, 0, 0)
		s := bcj2.Code(b)
		s.Code[4] += byte(add)
		refused(t, s, 9)
	}
}

// TestTargetsThatDontFit: four bytes that are more than are left of the size are bad, though all streams have enough.
func TestTargetsThatDontFit(t *testing.T) {
	for _, b := range [][]byte{withTarget(5, 0xe8, 0, -5), withTarget(7, 0xe9, 2, -5), {0x0f, 0x80, 0xfa, 0xff, 0xff, 0xff}} {
		s := bcj2.Code(b)
		decodes(t, "P15.2", s, b)
		if len(s.Main) != len(b)-4 {
			t.Fatalf("%x: Main %x", b, s.Main)
		}
		for size := range len(b) {
			refused(t, s, size)
		}
		last := clone(s) // of the last byte no bit is asked for, so that the code stays
		last.Call, last.Jump = nil, nil
		refused(t, last, len(last.Main))
		last.Code = make([]byte, 5)
		decodes(t, "P15.2", last, last.Main)
	}
}

// TestAnyStreams: four streams without order.
func TestAnyStreams(t *testing.T) {
	ends := map[bool]int{}
	for seed := range int64(30000) {
		r := rand.New(rand.NewSource(seed))
		kinds := some()[r.Intn(len(some()))]
		s := api.Four{Main: row(seed, r.Intn(12), kinds), Call: row(seed+1, 4*r.Intn(3), some()[12]), Jump: row(seed+2, r.Intn(2)*r.Intn(9), some()[12]), Code: row(seed+3, 5+r.Intn(2)*r.Intn(3), some()[12])}
		s.Code[0] = byte(r.Intn(9) / 8)
		if r.Intn(2) == 0 { // what ends a coder
			copy(s.Code, bitsCoded([]string{"", "c00+", "a+ a+", "a- b+", "a+ b-", "a- b- c+"}[r.Intn(6)]))
		}
		ends[asModel(t, s, len(s.Main)+len(s.Call)+len(s.Jump)-r.Intn(3)/2)]++
	}
	if ends[true] < 200 || ends[false] < 200 {
		t.Errorf("%v: too few of a kind", ends)
	}
}

// TestTurnedBytes: streams with one byte that is another one.
func TestTurnedBytes(t *testing.T) {
	ends := map[bool]int{}
	for seed := range int64(3000) {
		r := rand.New(rand.NewSource(seed))
		b := row(seed, 1+r.Intn(60), some()[r.Intn(len(some()))])
		s := bcj2.Code(b)
		l := *lists(&s)[r.Intn(4)]
		if len(l) > 0 {
			l[r.Intn(len(l))] ^= byte(1 << r.Intn(8))
			ends[asModel(t, s, len(b))]++
		}
	}
	if ends[true] < 100 || ends[false] < 100 {
		t.Errorf("%v: too few of a kind", ends)
	}
}

// TestSizesBelowNone: they count as 0.
func TestSizesBelowNone(t *testing.T) {
	for _, size := range []int{0, -1, -5, math.MinInt32, math.MinInt} {
		if out, code := bcj2.Decode(bcj2.Code(nil), size); code != api.OK || len(out) > 0 {
			t.Errorf("P15.2: size %d: code %d, %x", size, code, out)
		}
		refused(t, api.Four{}, size)
		refused(t, bcj2.Code([]byte{1}), size)
	}
}

// TestAnswersAreNewMemory: neither what was handed in, nor its spare room, nor another list changes with them.
func TestAnswersAreNewMemory(t *testing.T) {
	whole := row(5, 900, some()[7])
	was := bytes.Clone(whole)
	b := whole[100:600]
	one, two := bcj2.Code(b), bcj2.Code(b)
	want := clone(two)
	for _, l := range lists(&one) {
		if len(*l) == 0 {
			t.Fatal("a list is empty")
		}
		for i := range *l {
			(*l)[i] ^= 0xff
		}
		_ = append(*l, 1, 2, 3, 4)
	}
	for i := range lists(&one) {
		others := clone(two)
		l := *lists(&two)[i]
		for j := range l[:cap(l)] {
			l[:cap(l)][j] ^= 0xff
		}
		for k, other := range lists(&two) {
			if k != i && !bytes.Equal(*other, *lists(&others)[k]) {
				t.Errorf("P15.3: lists %d and %d share memory", i, k)
			}
		}
		copy(l, *lists(&want)[i])
	}
	clear(b)
	if !equal(two, want) {
		t.Error("P15.3: what was handed in is kept")
	}
	copy(whole, was)
	first, _ := bcj2.Decode(two, len(b))
	again, _ := bcj2.Decode(two, len(b))
	clear(first[:cap(first)])
	if !equal(two, want) || !bytes.Equal(again, b) || !bytes.Equal(whole, was) {
		t.Error("P15.2: memory is shared")
	}
	for _, l := range lists(&two) {
		clear(*l)
	}
	if !bytes.Equal(again, b) {
		t.Error("P15.2: what was handed in is kept")
	}
}

// TestNothingIsRemembered: a call doesn't see what another one had.
func TestNothingIsRemembered(t *testing.T) {
	b := row(3, 500, some()[8])
	want := modelCoded(b)
	for i := range int64(3) {
		other := bcj2.Code(row(i, 701, some()[3]))
		bcj2.Decode(other, 300)
		bcj2.Decode(api.Four{Main: []byte{0xe8, 0xe8}}, 7)
		if !equal(bcj2.Code(b), want) {
			t.Fatal("P15.3: another answer than ahead")
		}
		decodes(t, "P15.2", want, b)
	}
}
