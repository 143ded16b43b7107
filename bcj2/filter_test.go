package bcj2_test

import (
	"bytes"
	"math"
	"math/rand"
	"testing"

	"garbler/api"
	"garbler/bcj2"
	"garbler/src"
)

// four are the sources of a filter.
type four [4]*tape

func tapes(s api.Four) four {
	return four{{b: s.Main}, {b: s.Call}, {b: s.Jump}, {b: s.Code}}
}

func (s four) filter(size int) *bcj2.Filter { return bcj2.New(s[0], s[1], s[2], s[3], size) }

// asked: how many bytes were asked for.
func (s four) asked() [4]int {
	return [4]int{s[0].asked, s[1].asked, s[2].asked, s[3].asked}
}

// silent holds that a filter tells nothing any more, however often it is asked.
func silent(t *testing.T, f *bcj2.Filter, s four) {
	t.Helper()
	for range 7 {
		if x, ok := f.Next(); x != 0 || ok {
			t.Fatalf("P15.1: a filter that tells nothing any more: %d, %v; Main %x", x, ok, short(s[0].b))
		}
	}
}

// tells holds that a filter of four streams tells what the model says, and then nothing any more; Finish says whether the streams end, once. No source is asked for a byte that isn't needed for what was told.
func tells(t *testing.T, s api.Four, size int) {
	t.Helper()
	from := tapes(s)
	f := from.filter(size)
	told, ok := modelTold(s, size)
	for i, want := range told {
		x, more := f.Next()
		if x != want || !more {
			t.Fatalf("P15.1: Main %x, Call %x, Jump %x, Code %x of size %d: byte %d is %d, %v, not %d", short(s.Main), short(s.Call), short(s.Jump), short(s.Code), size, i, x, more, want)
		}
		if n := from.asked(); n[0]+n[1]+n[2] > i+4 || n[0] > i+1 {
			t.Fatalf("P15.1: Main %x: %d bytes were told, %v were asked for", short(s.Main), i+1, n)
		}
	}
	silent(t, f, from)
	if f.Finish() != ok {
		t.Fatalf("P15.1: Main %x, Call %x, Jump %x, Code %x of size %d: they end: %v", short(s.Main), short(s.Call), short(s.Jump), short(s.Code), size, !ok)
	}
	over(t, f, from)
}

// over holds that a filter that was finished is bad.
func over(t *testing.T, f *bcj2.Filter, s four) {
	t.Helper()
	n := s.asked()
	silent(t, f, s)
	if f.Finish() {
		t.Fatalf("P15.1: Main %x: finished again, it isn't bad", short(s[0].b))
	}
	if s.asked() != n {
		t.Fatalf("P15.1: Main %x: a filter that is bad asks for bytes: %v, and %v", short(s[0].b), n, s.asked())
	}
}

func TestFilterOfLittleRows(t *testing.T) {
	one := func(b []byte) {
		s := bcj2.Code(b)
		for size := max(len(b)-6, -1); size < len(b)+2; size++ {
			tells(t, s, size)
		}
	}
	each([]byte{0xe8, 0}, 9, one)
	each([]byte{0x0f, 0x84, 0}, 7, one)
	each([]byte{0xe8, 0xe9, 0xff, 0xfa}, 6, one)
}

func TestFilterOfRowsWithoutOrder(t *testing.T) {
	seed := int64(0)
	for _, kinds := range some() {
		for n := range 60 {
			for range 5 {
				seed++
				b := row(seed, n, kinds)
				r := rand.New(rand.NewSource(seed))
				tells(t, bcj2.Code(b), n)
				tells(t, laid(b, anyhow(r)), n)
				tells(t, laid(b, anyhow(r)), r.Intn(n+9))
			}
		}
		seed++
		b := row(seed, 30000, kinds)
		tells(t, bcj2.Code(b), len(b))
	}
}

func TestFilterOfFarPlaces(t *testing.T) {
	b := far()
	tells(t, bcj2.Code(b), len(b))
}

// TestFilterOfAnyStreams: streams without order, and ones that end too soon: what is told ahead of what is bad is told.
func TestFilterOfAnyStreams(t *testing.T) {
	for seed := range int64(20000) {
		r := rand.New(rand.NewSource(seed))
		kinds := some()[r.Intn(len(some()))]
		s := laid(row(seed, r.Intn(60), kinds), anyhow(r))
		size := len(s.Main) + len(s.Call) + len(s.Jump)
		for range r.Intn(3) {
			l := lists(&s)[r.Intn(4)]
			switch at := r.Intn(len(*l) + 1); {
			case r.Intn(2) == 0:
				*l = (*l)[:at]
			case at < len(*l):
				(*l)[at] ^= byte(1 << r.Intn(8))
			}
		}
		tells(t, s, size)
	}
}

// TestInstructionsAreToldAheadOfTheirBits: an instruction is told, whatever comes of its bit; of a target nothing is told that isn't whole.
func TestInstructionsAreToldAheadOfTheirBits(t *testing.T) {
	b := append(withTarget(11, 0xe8, 3, -8), 1, 2)
	s := bcj2.Code(b)
	for missing := 1; missing <= 4; missing++ {
		less := clone(s)
		less.Call = less.Call[:4-missing]
		tellsOnly(t, less, len(b), []byte{0x90, 0x90, 0x90, 0xe8})
	}
	for size := 5; size < 8; size++ {
		tellsOnly(t, s, size, []byte{0x90, 0x90, 0x90, 0xe8})
	}
	s.Call, s.Jump = nil, s.Call
	tellsOnly(t, s, len(b), []byte{0x90, 0x90, 0x90, 0xe8})

	many := bytes.Repeat([]byte{0xe9}, 200)
	s = bcj2.Code(many)
	if len(s.Code) < 6 {
		t.Fatalf("%d bytes of Code", len(s.Code))
	}
	s.Code = s.Code[:len(s.Code)-1]
	told, _ := modelTold(s, len(many))
	if len(told) < 5 || len(told) >= len(many) {
		t.Fatalf("%d bytes are told", len(told))
	}
	tellsOnly(t, s, len(many), many[:len(told)])
}

// tellsOnly holds that a filter tells just so many bytes, and is bad.
func tellsOnly(t *testing.T, s api.Four, size int, want []byte) {
	t.Helper()
	from := tapes(s)
	f := from.filter(size)
	var told []byte
	for x, ok := f.Next(); ok; x, ok = f.Next() {
		told = append(told, x)
	}
	if !bytes.Equal(told, want) {
		t.Fatalf("P15.1: Main %x, Call %x, Jump %x, Code %x of size %d: %x is told, not %x", short(s.Main), short(s.Call), short(s.Jump), short(s.Code), size, short(told), short(want))
	}
	silent(t, f, from)
	if f.Finish() {
		t.Fatalf("P15.1: Main %x of size %d: it isn't bad", short(s.Main), size)
	}
	refused(t, s, size)
}

// TestCodeIsBadFromTheBeginning: nothing is told then, not even what has no instructions.
func TestCodeIsBadFromTheBeginning(t *testing.T) {
	for _, code := range [][]byte{nil, {0}, {0, 0, 0, 0}, {1, 0, 0, 0, 0}, {0, 0xff, 0xff, 0xff, 0xff}} {
		for size := range 4 {
			tellsOnly(t, api.Four{Main: []byte("abc")[:size], Code: code}, size, nil)
		}
	}
}

// TestFinishAheadOfTheEnd: not all bytes were told: the streams don't end, and none is told any more.
func TestFinishAheadOfTheEnd(t *testing.T) {
	b := row(4, 300, some()[7])
	s := bcj2.Code(b)
	for n := range b {
		from := tapes(s)
		f := from.filter(len(b))
		for range n {
			f.Next()
		}
		if f.Finish() {
			t.Fatalf("P15.1: %d of %d bytes were told, and the streams end", n, len(b))
		}
		over(t, f, from)
	}
}

// TestFinishReadsToTheEnds: as soon as all bytes are told, Finish holds, also if nobody asked for one more.
func TestFinishReadsToTheEnds(t *testing.T) {
	for _, b := range [][]byte{nil, {1}, {0xe8}, {0xe8, 0xfb, 0xff, 0xff, 0xff}, row(9, 500, some()[7])} {
		s := bcj2.Code(b)
		from := tapes(s)
		f := from.filter(len(b))
		for range b {
			f.Next()
		}
		if !f.Finish() {
			t.Fatalf("P15.1: %x: the streams don't end", short(b))
		}
		over(t, f, from)
		for i := range from {
			more := tapes(s)
			more[i].b = append(bytes.Clone(more[i].b), 0)
			f := more.filter(len(b))
			for range b {
				f.Next()
			}
			if f.Finish() {
				t.Fatalf("P15.1: %x: the stream %d has a byte more, and they end", short(b), i)
			}
			over(t, f, more)
		}
	}
}

// TestFilterOfSizesBelowNone: they count as 0.
func TestFilterOfSizesBelowNone(t *testing.T) {
	for _, size := range []int{0, -1, -2, math.MinInt32, math.MinInt} {
		tells(t, bcj2.Code(nil), size)
		from := tapes(bcj2.Code([]byte{7}))
		f := from.filter(size)
		silent(t, f, from)
		if f.Finish() {
			t.Errorf("P15.1: size %d: Main has a byte", size)
		}
	}
}

// gap gives a list, none once, and then bytes again, which no source does.
type gap struct {
	b  []byte
	at int
}

func (s *gap) Next() (byte, bool) {
	s.at++
	if s.at <= len(s.b) {
		return s.b[s.at-1], true
	}
	return 0, s.at > len(s.b)+1
}

// TestSourceThatEnded: as soon as a source gives none where a byte is needed, it is bad, and stays so.
func TestSourceThatEnded(t *testing.T) {
	b := row(1, 400, some()[7])
	s := bcj2.Code(b)
	for i, l := range lists(&s) {
		if len(*l) < 8 {
			t.Fatalf("the stream %d has %d bytes", i, len(*l))
		}
		for n := range len(*l) {
			var from [4]bcj2.Source
			for j, other := range lists(&s) {
				from[j] = &gap{b: *other}
			}
			from[i] = &gap{b: (*l)[:n]}
			f := bcj2.New(from[0], from[1], from[2], from[3], len(b))
			told := 0
			for _, ok := f.Next(); ok; _, ok = f.Next() {
				told++
			}
			if told >= len(b) {
				t.Fatalf("P15.1: the stream %d has %d bytes, of %d, and all is told", i, n, len(*l))
			}
			silent(t, f, four{{}})
			if f.Finish() {
				t.Fatalf("P15.1: the stream %d has %d bytes, of %d, and they end", i, n, len(*l))
			}
		}
	}
}

// TestFilterOfNoSources: no source has no byte.
func TestFilterOfNoSources(t *testing.T) {
	code := func() bcj2.Source { return src.NewFeed(make([]byte, 5)) }
	feed := func(b ...byte) bcj2.Source { return src.NewFeed(b) }
	if f := bcj2.New(nil, nil, nil, code(), 0); !f.Finish() {
		t.Error("P15.1: of nothing nothing is told, and the streams don't end")
	}
	if f := bcj2.New(feed(7), nil, nil, code(), 1); !tellsOne(f, 7) || !f.Finish() {
		t.Error("P15.1: a byte that is no instruction needs no other stream")
	}
	for _, f := range []*bcj2.Filter{
		bcj2.New(nil, nil, nil, nil, 0),
		bcj2.New(nil, nil, nil, nil, 3),
		bcj2.New(nil, feed(), feed(), code(), 1),
		bcj2.New(feed(7), feed(), feed(), nil, 1),
	} {
		silent(t, f, four{{}})
		if f.Finish() {
			t.Error("P15.1: there are no sources, and they end")
		}
	}
	s := bcj2.Code([]byte{0xe8, 0xfb, 0xff, 0xff, 0xff})
	f := bcj2.New(feed(0xe8), nil, feed(), feed(s.Code...), 5)
	if !tellsOne(f, 0xe8) {
		t.Error("P15.1: the call isn't told")
	}
	silent(t, f, four{{}})
}

func tellsOne(f *bcj2.Filter, want byte) bool {
	x, ok := f.Next()
	return ok && x == want
}

// TestFiltersShareNothing: two that are asked by turns, with a coder and a decoder between them.
func TestFiltersShareNothing(t *testing.T) {
	a, b := row(7, 900, some()[7]), row(8, 900, some()[8])
	one, two := tapes(bcj2.Code(a)).filter(900), tapes(bcj2.Code(b)).filter(900)
	for i := range a {
		if !tellsOne(one, a[i]) || !tellsOne(two, b[i]) {
			t.Fatalf("P15.1: byte %d is another one", i)
		}
		if i%100 == 0 {
			decodes(t, "P15.2", bcj2.Code(a[:i]), a[:i])
		}
	}
	if !one.Finish() || !two.Finish() {
		t.Error("P15.1: the streams don't end")
	}
}
