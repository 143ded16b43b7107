package delta_test

import (
	"bytes"
	"testing"

	"garbler/api"
	"garbler/delta"
	"garbler/src"
)

// tape is a source that tells how often it was asked. Beside a false it gives a byte that is none.
type tape struct {
	b     []byte
	asked int
}

func (s *tape) Next() (byte, bool) {
	s.asked++
	if s.asked > len(s.b) {
		return 0xa5, false
	}
	return s.b[s.asked-1], true
}

// gap gives none once, and then bytes again, which no source does.
type gap struct{ asked int }

func (s *gap) Next() (byte, bool) {
	s.asked++
	return byte(s.asked), s.asked != 3
}

// made is a filter of a distance that may be.
func made(t *testing.T, s delta.Source, d int) *delta.Filter {
	t.Helper()
	f, code := delta.New(s, d)
	if f == nil || code != api.OK {
		t.Fatalf("P13.2: New, distance %d: %v, code %d", d, f, code)
	}
	return f
}

// ended holds that a filter tells nothing any more, however often it is asked.
func ended(t *testing.T, f *delta.Filter) {
	t.Helper()
	for range 3 {
		if b, ok := f.Next(); b != 0 || ok {
			t.Fatalf("P13.2: behind the last byte: %d, %v", b, ok)
		}
	}
}

// TestFilterIsAsTheModelSays: byte by byte, each told as soon as the source gave it, by all distances, of lengths about each multiple of them.
func TestFilterIsAsTheModelSays(t *testing.T) {
	for d := 1; d <= 256; d++ {
		for _, n := range lengths(d) {
			s := &tape{b: row(int64(d), n)}
			f := made(t, s, d)
			for i, want := range modelDecoded(s.b, d) {
				if b, ok := f.Next(); b != want || !ok || s.asked != i+1 {
					t.Fatalf("P13.2: distance %d, byte %d of %d: %d, %v, not %d; the source was asked %d times", d, i, n, b, ok, want, s.asked)
				}
			}
			ended(t, f)
		}
	}
}

// TestFilterOfAFeed: another kind of source; what is told of it is coded to what it was.
func TestFilterOfAFeed(t *testing.T) {
	b := row(5, 5000)
	for _, d := range []int{1, 2, 255, 256} {
		feed := src.NewFeed(b)
		f := made(t, feed, d)
		var plain []byte
		for x, ok := f.Next(); ok; x, ok = f.Next() {
			plain = append(plain, x)
		}
		if !bytes.Equal(coded(t, plain, d), b) || feed.Left() != 0 {
			t.Errorf("P13.4: distance %d: %d bytes are told, %d are left", d, len(plain), feed.Left())
		}
		ended(t, f)
	}
}

// TestFilterOfAFilter: a filter is a source, too.
func TestFilterOfAFilter(t *testing.T) {
	b := row(6, 700)
	f := made(t, made(t, src.NewFeed(b), 3), 256)
	for i, want := range modelDecoded(modelDecoded(b, 3), 256) {
		if x, ok := f.Next(); x != want || !ok {
			t.Fatalf("P13.2: byte %d: %d, %v, not %d", i, x, ok, want)
		}
	}
	ended(t, f)
}

// TestFilterOfNothing: the source has no byte, or there is none.
func TestFilterOfNothing(t *testing.T) {
	for _, d := range []int{1, 2, 256} {
		ended(t, made(t, &tape{}, d))
		ended(t, made(t, src.NewFeed(nil), d))
		ended(t, made(t, nil, d))
	}
}

// TestFilterThatEnded: as soon as the source gives none, it is over.
func TestFilterThatEnded(t *testing.T) {
	s := &gap{}
	f := made(t, s, 1)
	for _, want := range []byte{1, 3} {
		if b, ok := f.Next(); b != want || !ok {
			t.Errorf("P13.2: %d, %v, not %d", b, ok, want)
		}
	}
	ended(t, f)
}

// TestNoFilter: of a distance that may not be; the source isn't asked.
func TestNoFilter(t *testing.T) {
	for _, d := range wrong() {
		s := &tape{b: []byte{1, 2, 3}}
		if f, code := delta.New(s, d); f != nil || code != api.Props || s.asked != 0 {
			t.Errorf("P13.2: New, distance %d: %v, code %d; the source was asked %d times", d, f, code, s.asked)
		}
		if f, code := delta.New(nil, d); f != nil || code != api.Props {
			t.Errorf("P13.2: New of no source, distance %d: %v, code %d", d, f, code)
		}
	}
}

// TestFiltersShareNothing: two that are asked by turns, and a third one that comes later.
func TestFiltersShareNothing(t *testing.T) {
	a, b := row(7, 600), row(8, 600)
	first, second := modelDecoded(a, 4), modelDecoded(b, 4)
	one, two := made(t, src.NewFeed(a), 4), made(t, src.NewFeed(b), 4)
	for i := range a {
		x, _ := one.Next()
		y, _ := two.Next()
		if x != first[i] || y != second[i] {
			t.Fatalf("P13.2: byte %d: %d and %d", i, x, y)
		}
	}
	three := made(t, src.NewFeed([]byte{7}), 4)
	if x, ok := three.Next(); x != 7 || !ok {
		t.Errorf("P13.2: a new filter: %d, %v", x, ok)
	}
}
