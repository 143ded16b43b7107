package window_test

import (
	"math"
	"math/rand"
	"testing"

	"garbler/api"
	"garbler/meter"
	"garbler/window"
)

// made is a window of a size, with a meter that has more than enough.
func made(t *testing.T, size int) *window.Window {
	t.Helper()
	w, code := window.New(size, meter.New(api.Quota{Mem: math.MaxInt}))
	if w == nil || code != api.OK {
		t.Fatalf("P7.1: of the size %d: no window, code %d", size, code)
	}
	return w
}

// same holds all that may be asked of a window, at the distances ahead of a bound and at far ones, against the model.
func same(t *testing.T, promise string, w *window.Window, m *model, bound int, row ...call) {
	t.Helper()
	if w.Count() != m.count() {
		t.Fatalf("%s: size %d, %v: %d bytes are there, not %d", promise, m.size, row, w.Count(), m.count())
	}
	for d := range bound {
		asked(t, promise, w, m, d, row)
	}
	for _, d := range far() {
		asked(t, promise, w, m, d, row)
	}
}

func asked(t *testing.T, promise string, w *window.Window, m *model, d int, row []call) {
	t.Helper()
	if w.Has(d) != m.has(d) || w.At(d) != m.at(d) {
		t.Fatalf("%s: size %d, %v: at distance %d: %v, %d; not %v, %d", promise, m.size, row, d, w.Has(d), w.At(d), m.has(d), m.at(d))
	}
}

func TestExamples(t *testing.T) {
	w := made(t, 3)
	for _, b := range []byte("abcd") {
		w.Put(b)
	}
	if w.At(0) != 'd' || w.At(2) != 'b' || w.Has(3) {
		t.Errorf("P7.2: %c, %c; %v", w.At(0), w.At(2), w.Has(3))
	}
	if b := w.Copy(1); b != 'c' || w.At(0) != 'c' {
		t.Errorf("P7.2: %c is copied, then %c is the last one", b, w.At(0))
	}
}

// TestMemoryIsAskedFor: as many bytes as the size, of 1 at least, whether the meter has just as many, more, or one fewer.
func TestMemoryIsAskedFor(t *testing.T) {
	for _, size := range []int{math.MinInt, -2, -1, 0, 1, 2, 3, 4096, 1 << 20, math.MaxUint32, 1 << 40, math.MaxInt - 1} {
		want := max(size, 1)
		for _, more := range []int{0, 1} {
			m := meter.New(api.Quota{Mem: want + more})
			w, code := window.New(size, m)
			if w == nil || code != api.OK || m.Code() != api.OK || m.Used() != (api.Used{Mem: want, Peak: want}) {
				t.Errorf("P7.1: size %d of %d bytes: code %d, used %+v", size, want+more, code, m.Used())
			}
		}
		m := meter.New(api.Quota{Mem: want - 1})
		if w, code := window.New(size, m); w != nil || code != api.QMem || m.Used() != (api.Used{}) {
			t.Errorf("P7.1: size %d of %d bytes: %v, code %d, used %+v", size, want-1, w, code, m.Used())
		}
	}
	m := meter.New(api.Quota{Mem: math.MaxInt})
	if w, code := window.New(math.MaxInt, m); w == nil || code != api.OK || m.Used().Mem != math.MaxInt {
		t.Errorf("P7.1: of the greatest size: %v, code %d, used %+v", w, code, m.Used())
	}
}

// TestMemoryIsAskedForBesideOthers: what the meter has given already isn't given again.
func TestMemoryIsAskedForBesideOthers(t *testing.T) {
	m := meter.New(api.Quota{Mem: 10})
	m.Mem(3)
	one, code := window.New(4, m)
	if one == nil || code != api.OK || m.Used().Mem != 7 {
		t.Fatalf("P7.1: code %d, used %+v", code, m.Used())
	}
	if two, code := window.New(4, m); two != nil || code != api.QMem || m.Used().Mem != 7 {
		t.Errorf("P7.1: %v, code %d, used %+v", two, code, m.Used())
	}
	one.Put('a')
	if one.At(0) != 'a' || one.Count() != 1 {
		t.Error("P7.1: the window that was given is another one behind the one that wasn't")
	}
}

// TestMeterThatIsSpent: its code is told, whatever quota it was.
func TestMeterThatIsSpent(t *testing.T) {
	spend := []func(m *meter.Meter) bool{
		func(m *meter.Meter) bool { return m.Out(1) },
		func(m *meter.Meter) bool { return m.File() },
		func(m *meter.Meter) bool { return m.Down() },
		func(m *meter.Meter) bool { return m.Step(1) },
		func(m *meter.Meter) bool { return m.Mem(101) },
	}
	for i, code := range []api.Code{api.QOut, api.QFiles, api.QDepth, api.QSteps, api.QMem} {
		m := meter.New(api.Quota{Mem: 100})
		if spend[i](m) {
			t.Fatalf("the meter isn't spent by %d", code)
		}
		for _, size := range []int{-1, 0, 1, 100, 101} {
			if w, got := window.New(size, m); w != nil || got != code {
				t.Errorf("P7.1: spent by %d, size %d: %v, code %d", code, size, w, got)
			}
		}
	}
}

// TestSizesBelowOne: such a window remembers the last byte, and no other.
func TestSizesBelowOne(t *testing.T) {
	for _, size := range []int{math.MinInt, -1, 0, 1} {
		w, m := made(t, size), newModel(size)
		same(t, "P7.1", w, m, 4)
		for _, c := range []call{{put, 'a'}, {put, 'b'}, {again, 0}, {again, 1}, {empty, 0}, {again, 0}, {put, 'c'}} {
			if got, want := c.of(w), m.answer(c); got != want {
				t.Errorf("P7.2: size %d, %v: %d, not %d", size, c, got, want)
			}
			same(t, "P7.1", w, m, 4, c)
		}
	}
}

// TestNewIsEmpty: nothing is there, and what isn't there can't be put.
func TestNewIsEmpty(t *testing.T) {
	for _, size := range []int{1, 2, 100, 1 << 20} {
		w, m := made(t, size), newModel(size)
		for _, d := range append(far(), 0, 1, size-1, size) {
			if b := w.Copy(d); b != 0 || w.Count() != 0 {
				t.Errorf("P7.2: size %d, at distance %d: %d is copied, %d bytes are there", size, d, b, w.Count())
			}
		}
		same(t, "P7.2", w, m, 5)
	}
}

// TestRoundAndRound: bytes are put, several times as many as the size; behind each of them all that should be there is there, and nothing else.
func TestRoundAndRound(t *testing.T) {
	for size := 1; size <= 40; size++ {
		w, m := made(t, size), newModel(size)
		for i := range 4*size + 3 {
			c := call{put, i%255 + 1}
			c.of(w)
			m.answer(c)
			same(t, "P7.2", w, m, size+3, c)
		}
	}
}

// TestZerosAreBytes: a byte 0 is there as any other one is.
func TestZerosAreBytes(t *testing.T) {
	w := made(t, 4)
	for i := range 6 {
		w.Put(0)
		if w.Count() != min(i+1, 4) || !w.Has(0) || w.Has(w.Count()) {
			t.Errorf("P7.2: of %d bytes 0 %d are there", i+1, w.Count())
		}
	}
	if w.Copy(3) != 0 || w.Count() != 4 {
		t.Errorf("P7.2: %d bytes are there", w.Count())
	}
}

// TestCopyOfEachDistance: what lies there comes behind the last one, again and again, as a match does; a distance beyond what is there changes nothing.
func TestCopyOfEachDistance(t *testing.T) {
	for size := 1; size <= 12; size++ {
		for had := range 2*size + 2 {
			for d := -1; d <= size+1; d++ {
				w, m := made(t, size), newModel(size)
				for i := range had {
					w.Put(byte(i + 1))
					m.answer(call{put, i + 1})
				}
				for range 2*size + 3 {
					c := call{again, d}
					if got, want := c.of(w), m.answer(c); got != want {
						t.Fatalf("P7.2: size %d, %d bytes, at distance %d: %d is copied, not %d", size, had, d, got, want)
					}
					same(t, "P7.2", w, m, size+2, c)
				}
			}
		}
	}
}

// TestAskingChangesNothing: Has, At and Count may be asked as often as one likes.
func TestAskingChangesNothing(t *testing.T) {
	w, m := made(t, 5), newModel(5)
	for i := range 13 {
		w.Put(byte(i + 1))
		m.answer(call{put, i + 1})
		same(t, "P7.2", w, m, 8)
		same(t, "P7.2", w, m, 8)
	}
}

// TestEmpty: wherever the window was, it is as a new one then, but for its memory.
func TestEmpty(t *testing.T) {
	for size := 1; size <= 9; size++ {
		for had := range 3*size + 1 {
			mem := meter.New(api.Quota{Mem: size})
			w, _ := window.New(size, mem)
			for range had {
				w.Put('x')
			}
			m := newModel(size)
			w.Empty()
			same(t, "P7.3", w, m, size+2)
			if w.Copy(0) != 0 || w.Count() != 0 || mem.Used().Mem != size {
				t.Fatalf("P7.3: size %d, %d bytes: %d are there, used %+v", size, had, w.Count(), mem.Used())
			}
			for i := range 2*size + 2 {
				w.Put(byte(i))
				m.answer(call{put, i})
				same(t, "P7.3", w, m, size+2)
			}
			w.Empty()
			w.Empty()
			same(t, "P7.3", w, newModel(size), size+2)
		}
	}
}

// TestClose: the memory is given back, once, and not that of others; nothing is there, and nothing can be put.
func TestClose(t *testing.T) {
	for _, size := range []int{-5, 0, 1, 2, 7, 4096} {
		for _, had := range []int{0, 1, 5, 5000} {
			mem := meter.New(api.Quota{Mem: 1 << 20})
			mem.Mem(1000)
			w, _ := window.New(size, mem)
			for i := range had {
				w.Put(byte(i + 1))
			}
			for range 3 {
				w.Close()
				if u := mem.Used(); u.Mem != 1000 || u.Peak != 1000+max(size, 1) {
					t.Fatalf("P7.3: size %d closed: used %+v", size, u)
				}
				w.Put('x')
				if w.Copy(0) != 0 || w.Count() != 0 {
					t.Fatalf("P7.3: size %d closed: %d bytes are there", size, w.Count())
				}
				w.Empty()
				same(t, "P7.3", w, newModel(size), 5)
			}
			if mem.Code() != api.OK {
				t.Errorf("P7.3: code %d", mem.Code())
			}
		}
	}
}

// TestCloseWithASpentMeter: the memory is given back to it, too.
func TestCloseWithASpentMeter(t *testing.T) {
	mem := meter.New(api.Quota{Mem: 100})
	w, _ := window.New(60, mem)
	mem.Mem(41)
	w.Put('a')
	if w.At(0) != 'a' || w.Copy(0) != 'a' || w.Count() != 2 {
		t.Error("P7.2: a window whose meter is spent")
	}
	w.Close()
	if mem.Used() != (api.Used{Peak: 60}) || mem.Code() != api.QMem {
		t.Errorf("P7.3: used %+v, code %d", mem.Used(), mem.Code())
	}
}

// TestMemoryIsThereAgain: what one window gave back, the next one may have; it doesn't see what was in the other one.
func TestMemoryIsThereAgain(t *testing.T) {
	mem := meter.New(api.Quota{Mem: 50})
	for range 100 {
		w, code := window.New(50, mem)
		if w == nil || code != api.OK || w.Count() != 0 || w.Has(0) || w.At(0) != 0 {
			t.Fatalf("P7.3: code %d, used %+v", code, mem.Used())
		}
		for range 120 {
			w.Put('x')
		}
		w.Close()
	}
}

// TestTwoWindows: what one is given doesn't matter to the other, nor does its end.
func TestTwoWindows(t *testing.T) {
	mem := meter.New(api.Quota{Mem: 12})
	one, _ := window.New(5, mem)
	two, _ := window.New(7, mem)
	a, b := newModel(5), newModel(7)
	for i := range 30 {
		one.Put(byte(i + 1))
		a.answer(call{put, i + 1})
		two.Put(byte(200 - i))
		b.answer(call{put, 200 - i})
		same(t, "P7.2", one, a, 8)
		same(t, "P7.2", two, b, 10)
	}
	one.Close()
	same(t, "P7.3", two, b, 10)
	if mem.Used().Mem != 7 {
		t.Errorf("P7.3: used %+v", mem.Used())
	}
}

// TestShortRowsOfCallsAreAsTheModelSays goes through every row of six calls, with little sizes.
func TestShortRowsOfCallsAreAsTheModelSays(t *testing.T) {
	calls := []call{{put, 1}, {put, 2}, {again, 0}, {again, 1}, {again, 2}, {empty, 0}, {shut, 0}}
	const long = 6
	all := 1
	for range long {
		all *= len(calls)
	}
	for size := range 4 {
		for i := range all {
			w, m := made(t, size), newModel(size)
			row := make([]call, 0, long)
			for j := i; len(row) < long; j /= len(calls) {
				c := calls[j%len(calls)]
				row = append(row, c)
				if got, want := c.of(w), m.answer(c); got != want {
					t.Fatalf("P7.4: size %d, %v: %d, not %d", size, row, got, want)
				}
			}
			same(t, "P7.4", w, m, 5, row...)
		}
	}
}

// TestLongRowsOfCallsAreAsTheModelSays: sizes and rows of all lengths, many of them beyond the room with which a ring begins.
func TestLongRowsOfCallsAreAsTheModelSays(t *testing.T) {
	for seed := range int64(1500) {
		r := rand.New(rand.NewSource(seed))
		size := r.Intn(1 << r.Intn(12))
		w, m := made(t, size), newModel(size)
		long := r.Intn(6*size + 20)
		for i := range long {
			c := call{r.Intn(again + 1), r.Intn(256)}
			if c.kind == again {
				c.n = r.Intn(2*size+3) - 1
			}
			if r.Intn(3*size+5) == 0 {
				c.kind = empty
			}
			if got, want := c.of(w), m.answer(c); got != want {
				t.Fatalf("P7.4: seed %d: size %d, call %d, %v: %d, not %d", seed, size, i, c, got, want)
			}
			if b := r.Intn(size + 2); w.Has(b) != m.has(b) || w.At(b) != m.at(b) || w.Count() != m.count() {
				t.Fatalf("P7.4: seed %d: size %d, call %d, %v: at distance %d: %v, %d", seed, size, i, c, b, w.Has(b), w.At(b))
			}
		}
		same(t, "P7.4", w, m, size+3)
	}
}

// TestEdgesOfGreatSizes: the first byte is there till as many as the size came behind it.
func TestEdgesOfGreatSizes(t *testing.T) {
	for _, size := range []int{63, 64, 65, 127, 128, 129, 4096, 1<<16 - 1, 1 << 16, 1<<16 + 1, 1 << 20} {
		w := made(t, size)
		w.Put(1)
		for range size - 1 {
			w.Put(2)
		}
		if w.Count() != size || !w.Has(size-1) || w.At(size-1) != 1 || w.Has(size) {
			t.Errorf("P7.4: size %d: %d bytes are there, %d is the last one", size, w.Count(), w.At(size-1))
		}
		if b := w.Copy(size - 1); b != 1 || w.At(0) != 1 || w.At(size-1) != 2 || w.Has(size) || w.Count() != size {
			t.Errorf("P7.4: size %d: %d comes round", size, b)
		}
	}
}

// TestDeclaredSizes: a size that is far greater than what comes costs no more than what comes, but of the meter.
func TestDeclaredSizes(t *testing.T) {
	for _, size := range []int{math.MaxUint32, 1 << 40, math.MaxInt} {
		w, m := made(t, size), newModel(size)
		for i := range 1000 {
			w.Put(byte(i))
			m.answer(call{put, i})
		}
		same(t, "P7.4", w, m, 1003)
		if w.Copy(999) != 0 || w.Count() != 1001 || w.At(1) != byte(999%256) {
			t.Errorf("P7.4: size %d: %d bytes are there", size, w.Count())
		}
		w.Close()
	}
}

// TestLessIsThereInALesserWindow: at each distance that is there in both, windows of two sizes have one byte.
func TestLessIsThereInALesserWindow(t *testing.T) {
	r := rand.New(rand.NewSource(9))
	less, more := made(t, 10), made(t, 25)
	for range 300 {
		b := byte(r.Intn(256))
		less.Put(b)
		more.Put(b)
		for d := range 10 {
			if less.Has(d) != more.Has(d) || less.At(d) != more.At(d) {
				t.Fatalf("P7.4: at distance %d: %d, %d", d, less.At(d), more.At(d))
			}
		}
	}
}
