package bcj_test

import (
	"bytes"
	"encoding/hex"
	"testing"

	"garbler/bcj"
)

// same holds both ways of a list against the model, and against each other. What is handed in is left as it was.
func same(t *testing.T, b []byte) {
	t.Helper()
	was := bytes.Clone(b)
	plain, x := bcj.Decode(b), bcj.Code(b)
	if !bytes.Equal(b, was) {
		t.Fatalf("P14.1: what was handed in is %x, was %x", short(b), short(was))
	}
	if want := modelDecoded(b); !bytes.Equal(plain, want) {
		t.Fatalf("P14.1: %x decoded: %x, not %x", short(b), short(plain), short(want))
	}
	if want := modelCoded(b); !bytes.Equal(x, want) {
		t.Fatalf("P14.1: %x coded: %x, not %x", short(b), short(x), short(want))
	}
	if back := bcj.Decode(x); !bytes.Equal(back, b) {
		t.Fatalf("P14.3: %x, coded and decoded: %x", short(b), short(back))
	}
	for i, is := range behind(b) {
		if !is && (plain[i] != b[i] || x[i] != b[i]) {
			t.Fatalf("P14.3: %x: its byte %d is %d decoded, %d coded", short(b), i, plain[i], x[i])
		}
	}
}

// TestRowsWrittenOut: plain lists, and what they are coded.
func TestRowsWrittenOut(t *testing.T) {
	for _, e := range []struct{ plain, coded string }{
		// the chapter's
		{"e800000000", "e805000000"},
		{"90e8fbffffff", "90e801000000"},

		// four bytes behind a mark are needed
		{"", ""},
		{"e8", "e8"},
		{"e8000000", "e8000000"},
		{"90e9000000", "90e9000000"},
		{"9090e9000000", "9090e9000000"},

		// both marks, and no other byte
		{"e900000000", "e905000000"},
		{"e700000000", "e700000000"},
		{"ea00000000", "ea00000000"},
		{"6800000000", "6800000000"},
		{"c800000000", "c800000000"},
		{"f800000000", "f800000000"},

		// the last of the four is an edge, or they stay
		{"e8000000ff", "e8050000ff"},
		{"e800000001", "e800000001"},
		{"e8000000fe", "e8000000fe"},
		{"e80000007f", "e80000007f"},
		{"e800000080", "e800000080"},

		// 25 bits, the greatest one a sign
		{"e8fbffff00", "e8000000ff"},
		{"e8fbffffff", "e800000000"},
		{"e8faffffff", "e8ffffffff"},
		{"e8faffff00", "e8ffffff00"},
		{"e8ff000000", "e804010000"},
		{"e8ffff0000", "e804000100"},

		// a word that is turned hides the marks in it; the next one begins behind it
		{"e8e8e8e800e800000000", "e8ede8e800e80a000000"},
		{"e8e9e9e90000e800000000", "e8eee9e90000e80b000000"},

		// an elder mark one, two, three, four bytes ahead, whose word stayed
		{"e8e800007f00", "e8e806007f00"},
		{"e800e8007f0000", "e800e8077f0000"},
		{"e80000e87f000000", "e80000e887000000"},
		{"e8000000e800000000", "e8000000e809000000"},

		// likewise, but the elder word would come to end with an edge: it is turned again
		{"e8e8fffffe00", "e8e800000100"},
		{"e8e8fffffeff", "e8e8000001ff"},
		{"e800e8fffe0000", "e800e800010000"},
		{"e80000e8f7000000", "e80000e808000000"},
		{"e80000e8f8000000", "e80000e807020000"},

		// two elder marks, or three: no word is turned
		{"e8e8e8007f7f00", "e8e8e8007f7f00"},
		{"e800e8e87f007f00", "e800e8e87f007f00"},
		{"e8e800e87f7f0000", "e8e800e87f7f0000"},
		{"e8e8e8e87f7f7f00", "e8e8e8e87f7f7f00"},

		// one elder mark, whose word stayed though it ends with an edge: the word isn't turned; or it ends with none
		{"e8e8e8007fe800112200", "e8e8e8007fe800112200"},
		{"e8e8e8007fe87f112200", "e8e8e8007fe889112200"},
		{"e8e8e8007fe8ff112200", "e8e8e8007fe8ff112200"},
		{"e8e8e8007fe8ffe8221100", "e8e8e8007fe8ffe8221100"},
	} {
		plain, _ := hex.DecodeString(e.plain)
		coded, _ := hex.DecodeString(e.coded)
		if got := bcj.Code(plain); !bytes.Equal(got, coded) {
			t.Errorf("P14.1: %s coded: %x, not %s", e.plain, got, e.coded)
		}
		if got := bcj.Decode(coded); !bytes.Equal(got, plain) {
			t.Errorf("P14.1: %s decoded: %x, not %s", e.coded, got, e.plain)
		}
		same(t, plain)
		same(t, coded)
	}
}

// TestLittleRows: every row of some kinds of bytes; marks lie ahead of each other in each way.
func TestLittleRows(t *testing.T) {
	for _, e := range []struct {
		kinds []byte
		most  int
	}{
		{[]byte{0xe8, 0}, 13},
		{[]byte{0xe8, 0xff, 0x7f}, 10},
		{[]byte{0xe9, 0, 1}, 10},
		{[]byte{0xe8, 0, 0xff, 1}, 8},
		{[]byte{0xe8, 0xe9, 0, 1, 0x7f, 0xfe, 0xff}, 6},
	} {
		each(e.kinds, e.most, func(b []byte) { same(t, b) })
	}
}

// TestWordsOfEveryByte: a mark with each byte in each of the four places behind it, and each byte in the mark's.
func TestWordsOfEveryByte(t *testing.T) {
	for at := range 8 {
		for x := range 256 {
			for _, y := range []byte{0, 0xff, 0x80} {
				b := bytes.Repeat([]byte{y}, 12)
				b[2] = 0xe8
				b[at] = byte(x)
				same(t, b)
			}
		}
	}
}

func TestRowsWithoutOrder(t *testing.T) {
	seed := int64(0)
	for _, kinds := range some() {
		for n := range 70 {
			for range 30 {
				seed++
				same(t, row(seed, n, kinds))
			}
		}
		for _, n := range []int{255, 256, 257, 1000, 70000} {
			seed++
			same(t, row(seed, n, kinds))
		}
	}
}

// far: a list that goes beyond the places of 25 bits, with marks about each place at which another byte of it comes over.
func far() []byte {
	b := bytes.Repeat([]byte{0x90}, 1<<25+5000)
	for bit := 7; bit <= 25; bit++ {
		copy(b[1<<bit-64:], row(int64(bit), 128, some()[4]))
	}
	copy(b[1<<25+4000:], row(1, 900, some()[5]))
	return b
}

func TestFarPlaces(t *testing.T) { same(t, far()) }

// TestWithoutMarks: a list of bytes that are no marks stays, of whatever length.
func TestWithoutMarks(t *testing.T) {
	var kinds []byte
	for x := range 256 {
		if x != 0xe8 && x != 0xe9 {
			kinds = append(kinds, byte(x))
		}
	}
	for _, n := range []int{0, 1, 4, 5, 6, 10, 1000, 70000} {
		for _, some := range [][]byte{kinds, {0}, {0xff}, {0xe7, 0xea, 0, 0xff}} {
			b := row(int64(n), n, some)
			if !bytes.Equal(bcj.Decode(b), b) || !bytes.Equal(bcj.Code(b), b) {
				t.Errorf("P14.3: %x doesn't stay", short(b))
			}
		}
	}
}

// TestUpToFourBytes: they stay, whatever they are.
func TestUpToFourBytes(t *testing.T) {
	each([]byte{0xe8, 0xe9, 0, 0xff, 1, 0xe7, 0xea}, 4, func(b []byte) {
		if !bytes.Equal(bcj.Decode(b), b) || !bytes.Equal(bcj.Code(b), b) {
			t.Errorf("P14.3: %x doesn't stay", b)
		}
	})
	if len(bcj.Decode(nil)) != 0 || len(bcj.Code(nil)) != 0 {
		t.Error("P14.1: of no list something came")
	}
}

// TestAnswersAreNewMemory: neither what was handed in, nor its spare room, nor another answer changes with them.
func TestAnswersAreNewMemory(t *testing.T) {
	for _, does := range []func([]byte) []byte{bcj.Decode, bcj.Code} {
		whole := row(2, 90, some()[4])
		was := bytes.Clone(whole)
		for _, b := range [][]byte{whole[10:50], whole[10:13], bytes.Repeat([]byte{0x90}, 20)[:10]} { // they have spare room
			one, two := does(b), does(b)
			want := bytes.Clone(two)
			for i := range one {
				one[i] ^= 0xff
			}
			_ = append(one, 1, 2, 3)
			if !bytes.Equal(whole, was) || !bytes.Equal(two, want) {
				t.Fatal("P14.1: memory is shared")
			}
			clear(b)
			if !bytes.Equal(two, want) {
				t.Fatal("P14.1: what was handed in is kept")
			}
			copy(whole, was)
		}
	}
}

// TestNothingIsRemembered: a call doesn't see what another one had.
func TestNothingIsRemembered(t *testing.T) {
	b := []byte{0xe8, 0xe8, 0xff, 0xff, 0xfe, 0}
	plain, coded := modelDecoded(b), modelCoded(b)
	for i := range 3 {
		bcj.Decode(row(int64(i), 1001, some()[1]))
		bcj.Code(row(int64(i), 1001, some()[1]))
		if !bytes.Equal(bcj.Decode(b), plain) || !bytes.Equal(bcj.Code(b), coded) {
			t.Fatal("P14.1: another answer than ahead")
		}
	}
}
