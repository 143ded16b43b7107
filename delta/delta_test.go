package delta_test

import (
	"bytes"
	"encoding/hex"
	"testing"

	"garbler/api"
	"garbler/delta"
)

// decoded, coded: what bytes come to, by a distance that may be. They are left as they were.
func decoded(t *testing.T, b []byte, d int) []byte {
	t.Helper()
	return came(t, "decoded", delta.Decode, b, d)
}

func coded(t *testing.T, b []byte, d int) []byte {
	t.Helper()
	return came(t, "coded", delta.Code, b, d)
}

func came(t *testing.T, how string, does func([]byte, int) ([]byte, api.Code), b []byte, d int) []byte {
	t.Helper()
	was := bytes.Clone(b)
	out, code := does(b, d)
	if code != api.OK || len(out) != len(b) {
		t.Fatalf("P13.3: distance %d, %d bytes %s: %d bytes, code %d", d, len(b), how, len(out), code)
	}
	if !bytes.Equal(b, was) {
		t.Fatalf("P13.3: distance %d, %s: what was handed in is %v, was %v", d, how, short(b), short(was))
	}
	return out
}

// same holds both ways of a row against the model, and against each other.
func same(t *testing.T, b []byte, d int) {
	t.Helper()
	plain, x := decoded(t, b, d), coded(t, b, d)
	if want := modelDecoded(b, d); !bytes.Equal(plain, want) {
		t.Fatalf("P13.3: distance %d, %v decoded: %v, not %v", d, short(b), short(plain), short(want))
	}
	if want := modelCoded(b, d); !bytes.Equal(x, want) {
		t.Fatalf("P13.3: distance %d, %v coded: %v, not %v", d, short(b), short(x), short(want))
	}
	if !bytes.Equal(decoded(t, x, d), b) || !bytes.Equal(coded(t, plain, d), b) {
		t.Fatalf("P13.4: distance %d, %v isn't as it was, there and back", d, short(b))
	}
	first := min(len(b), d)
	if !bytes.Equal(plain[:first], b[:first]) || !bytes.Equal(x[:first], b[:first]) {
		t.Fatalf("P13.4: distance %d, %v: the first bytes are others", d, short(b))
	}
}

func TestExamples(t *testing.T) {
	for _, e := range []struct {
		coded, plain string
		d            int
	}{
		{"01010203", "01020407", 1},
		{"01010203", "01010304", 2},
		{"01010203", "01010204", 3},
		{"01010203", "01010203", 4},
		{"ff01ff01", "ff00ff00", 1}, // sums and differences go round
		{"ff0001ff", "ff0000ff", 2},
		{"", "", 1},
		{"", "", 256},
		{"80", "80", 1},
		{"80", "80", 256},
	} {
		x, _ := hex.DecodeString(e.coded)
		plain, _ := hex.DecodeString(e.plain)
		if got := decoded(t, x, e.d); !bytes.Equal(got, plain) {
			t.Errorf("P13.3: distance %d, %x decoded: %x, not %x", e.d, x, got, plain)
		}
		if got := coded(t, plain, e.d); !bytes.Equal(got, x) {
			t.Errorf("P13.3: distance %d, %x coded: %x, not %x", e.d, plain, got, x)
		}
	}
}

// TestOneByte: of a row of bytes 0 with another one among them, decoded: that byte is there once in each distance, from its place on; coded: it, and less than nothing by it, just one distance behind.
func TestOneByte(t *testing.T) {
	for d := 1; d <= 256; d++ {
		for _, at := range []int{0, 1, d - 1, d, d + 1, 300} {
			b := make([]byte, 4*d+400)
			b[at] = 3
			plain, x := decoded(t, b, d), coded(t, b, d)
			for i := range b {
				want := [2]byte{}
				if i >= at && (i-at)%d == 0 {
					want[0] = 3
				}
				if i == at {
					want[1] = 3
				}
				if i == at+d {
					want[1] = 253
				}
				if plain[i] != want[0] || x[i] != want[1] {
					t.Fatalf("P13.3: distance %d, a byte at %d: at %d %d and %d, not %v", d, at, i, plain[i], x[i], want)
				}
			}
		}
	}
}

// TestEveryDistanceIsAsTheModelSays: rows of all kinds, of lengths about each multiple of the distance.
func TestEveryDistanceIsAsTheModelSays(t *testing.T) {
	for d := 1; d <= 256; d++ {
		for _, n := range lengths(d) {
			for _, b := range rows(n) {
				same(t, b, d)
			}
		}
	}
}

// TestLittleRowsAreAsTheModelSays: every row of up to five bytes of some kinds, by little distances.
func TestLittleRowsAreAsTheModelSays(t *testing.T) {
	kinds := []byte{0, 1, 2, 127, 128, 255}
	list := [][]byte{{}}
	for from := 0; len(list[from]) < 5; from++ {
		for _, x := range kinds {
			list = append(list, append(bytes.Clone(list[from]), x))
		}
	}
	for _, b := range list {
		for d := 1; d <= 6; d++ {
			same(t, b, d)
		}
	}
}

// TestEveryTwoBytes: each byte ahead of each other one.
func TestEveryTwoBytes(t *testing.T) {
	for x := range 256 {
		for y := range 256 {
			b := []byte{byte(x), byte(y)}
			same(t, b, 1)
		}
	}
}

func TestLongRows(t *testing.T) {
	b := row(1, 1<<20+13)
	for _, d := range []int{1, 2, 3, 4, 7, 12, 128, 255, 256} {
		same(t, b, d)
	}
}

// TestDistancesThatMayNotBe: nothing comes of any bytes.
func TestDistancesThatMayNotBe(t *testing.T) {
	for _, d := range wrong() {
		for _, b := range [][]byte{nil, {}, {1}, {1, 2, 4, 7}, make([]byte, 600)} {
			if out, code := delta.Decode(b, d); len(out) != 0 || code != api.Props {
				t.Errorf("P13.3: distance %d, %v decoded: %v, code %d", d, short(b), short(out), code)
			}
			if out, code := delta.Code(b, d); len(out) != 0 || code != api.Props {
				t.Errorf("P13.3: distance %d, %v coded: %v, code %d", d, short(b), short(out), code)
			}
		}
	}
}

// TestAnswersAreNewMemory: neither what was handed in, nor its spare room, nor another answer changes with them.
func TestAnswersAreNewMemory(t *testing.T) {
	for _, does := range []func([]byte, int) ([]byte, api.Code){delta.Decode, delta.Code} {
		whole := row(2, 90)
		was := bytes.Clone(whole)
		b := whole[10:50] // it has spare room
		for _, d := range []int{1, 39, 40, 41, 256} {
			one, _ := does(b, d)
			two, _ := does(b, d)
			want := bytes.Clone(two)
			for i := range one {
				one[i] ^= 0xff
			}
			_ = append(one, 1, 2, 3)
			if !bytes.Equal(whole, was) || !bytes.Equal(two, want) {
				t.Fatalf("P13.3: distance %d: memory is shared", d)
			}
			clear(b)
			if !bytes.Equal(two, want) {
				t.Fatalf("P13.3: distance %d: what was handed in is kept", d)
			}
			copy(whole, was)
		}
	}
}

// TestNothingIsRemembered: a call doesn't see what another one had.
func TestNothingIsRemembered(t *testing.T) {
	b := []byte{9, 8, 7, 6, 5}
	want := modelDecoded(b, 2)
	for range 3 {
		decoded(t, row(3, 1001), 2)
		coded(t, row(4, 1001), 2)
		if got := decoded(t, b, 2); !bytes.Equal(got, want) {
			t.Fatalf("P13.3: %v, not %v", got, want)
		}
	}
}
