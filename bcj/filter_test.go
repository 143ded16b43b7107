package bcj_test

import (
	"testing"

	"garbler/bcj"
	"garbler/src"
)

// tape is a source that tells how often it was asked. Beside a false it gives a byte that is none.
type tape struct {
	b     []byte
	asked int
}

func (s *tape) Next() (byte, bool) {
	s.asked++
	if s.asked > len(s.b) {
		return 0xe8, false
	}
	return s.b[s.asked-1], true
}

// gap gives a list, none once, and then bytes again, which no source does.
type gap struct {
	b  []byte
	at int
}

func (s *gap) Next() (byte, bool) {
	s.at++
	if s.at <= len(s.b) {
		return s.b[s.at-1], true
	}
	return 0xe8, s.at > len(s.b)+1
}

// ended holds that a filter tells nothing any more, however often it is asked.
func ended(t *testing.T, f *bcj.Filter) {
	t.Helper()
	for range 7 {
		if x, ok := f.Next(); x != 0 || ok {
			t.Fatalf("P14.2: behind the last byte: %d, %v", x, ok)
		}
	}
}

// tells holds that a filter of a list tells what the list is decoded, and never asks for more than five bytes more than it told.
func tells(t *testing.T, b []byte) {
	t.Helper()
	s := &tape{b: b}
	f := bcj.New(s)
	for i, want := range modelDecoded(b) {
		x, ok := f.Next()
		if x != want || !ok {
			t.Fatalf("P14.2: %x: byte %d is %d, %v, not %d", short(b), i, x, ok, want)
		}
		if s.asked > i+5 { // ahead of this byte, i were told
			t.Fatalf("P14.2: %x: %d bytes were told, %d were asked for", short(b), i, s.asked)
		}
	}
	ended(t, f)
	if s.asked > len(b)+5 {
		t.Fatalf("P14.2: %x: %d bytes, %d were asked for", short(b), len(b), s.asked)
	}
}

func TestFilterOfLittleRows(t *testing.T) {
	each([]byte{0xe8, 0}, 12, func(b []byte) { tells(t, b) })
	each([]byte{0xe8, 0xff, 1}, 9, func(b []byte) { tells(t, b) })
	each([]byte{0xe8, 0xe9, 0, 1, 0x7f, 0xfe, 0xff}, 5, func(b []byte) { tells(t, b) })
}

func TestFilterOfRowsWithoutOrder(t *testing.T) {
	seed := int64(0)
	for _, kinds := range some() {
		for n := range 70 {
			for range 10 {
				seed++
				tells(t, row(seed, n, kinds))
			}
		}
		seed++
		tells(t, row(seed, 70000, kinds))
	}
}

func TestFilterOfFarPlaces(t *testing.T) { tells(t, far()) }

// TestFilterOfAFeed: another kind of source; of what is coded it tells what it was.
func TestFilterOfAFeed(t *testing.T) {
	for i, kinds := range some() {
		b := row(int64(i), 3000, kinds)
		feed := src.NewFeed(bcj.Code(b))
		f := bcj.New(feed)
		for at, want := range b {
			if x, ok := f.Next(); x != want || !ok {
				t.Fatalf("P14.3: byte %d: %d, %v, not %d", at, x, ok, want)
			}
		}
		ended(t, f)
		if feed.Left() != 0 {
			t.Errorf("P14.2: %d bytes are left", feed.Left())
		}
	}
}

// TestFilterOfAFilter: a filter is a source, too.
func TestFilterOfAFilter(t *testing.T) {
	b := row(6, 2000, some()[4])
	f := bcj.New(bcj.New(src.NewFeed(b)))
	for i, want := range modelDecoded(modelDecoded(b)) {
		if x, ok := f.Next(); x != want || !ok {
			t.Fatalf("P14.2: byte %d: %d, %v, not %d", i, x, ok, want)
		}
	}
	ended(t, f)
}

// TestFilterOfNothing: the source has no byte, or there is none.
func TestFilterOfNothing(t *testing.T) {
	ended(t, bcj.New(&tape{}))
	ended(t, bcj.New(src.NewFeed(nil)))
	ended(t, bcj.New(nil))
}

// TestFilterThatEnded: as soon as the source gives none, what waits is the list's end.
func TestFilterThatEnded(t *testing.T) {
	for _, b := range [][]byte{{}, {1, 2}, {0xe8}, {0x90, 0xe8, 0, 0, 0}, {0xe8, 0, 0, 0, 0, 0xe9, 0xe9}} {
		f := bcj.New(&gap{b: b})
		for i, want := range modelDecoded(b) {
			if x, ok := f.Next(); x != want || !ok {
				t.Fatalf("P14.2: %x: byte %d: %d, %v, not %d", b, i, x, ok, want)
			}
		}
		ended(t, f)
	}
}

// TestFiltersShareNothing: two that are asked by turns, and a third one that comes later.
func TestFiltersShareNothing(t *testing.T) {
	a, b := row(7, 900, some()[4]), row(8, 900, some()[1])
	first, second := modelDecoded(a), modelDecoded(b)
	one, two := bcj.New(src.NewFeed(a)), bcj.New(src.NewFeed(b))
	for i := range a {
		x, _ := one.Next()
		y, _ := two.Next()
		if x != first[i] || y != second[i] {
			t.Fatalf("P14.2: byte %d: %d and %d", i, x, y)
		}
	}
	three := bcj.New(src.NewFeed([]byte{0xe8, 5, 0, 0, 0}))
	for _, want := range []byte{0xe8, 0, 0, 0, 0} {
		if x, ok := three.Next(); x != want || !ok {
			t.Errorf("P14.2: a new filter: %d, %v, not %d", x, ok, want)
		}
	}
}
