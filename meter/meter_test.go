package meter_test

import (
	"math"
	"math/rand"
	"sync"
	"sync/atomic"
	"testing"

	"garbler/api"
	"garbler/meter"
)

// thing is something that there is a quota of: the call that uses it, a quota of nothing but it, how much of it is used, and its code.
type thing struct {
	kind  int
	quota func(n int) api.Quota
	used  func(u api.Used) int
	code  api.Code
}

func things() []thing {
	return []thing{
		{mem, func(n int) api.Quota { return api.Quota{Mem: n} }, func(u api.Used) int { return u.Mem }, 101},
		{out, func(n int) api.Quota { return api.Quota{Out: n} }, func(u api.Used) int { return u.Out }, 102},
		{file, func(n int) api.Quota { return api.Quota{Files: n} }, func(u api.Used) int { return u.Files }, 103},
		{down, func(n int) api.Quota { return api.Quota{Depth: n} }, func(u api.Used) int { return u.Depth }, 104},
		{step, func(n int) api.Quota { return api.Quota{Steps: n} }, func(u api.Used) int { return u.Steps }, 105},
	}
}

// same holds a meter and what it answered to a call against the model, to which the same was said.
func same(t *testing.T, promise string, q api.Quota, calls []call, m *meter.Meter, got bool, want *model, answer bool) {
	t.Helper()
	if got != answer {
		t.Fatalf("%s: %+v, %v: the last one: %v, not %v", promise, q, calls, got, answer)
	}
	if m.Used() != want.told() || m.Code() != want.code {
		t.Fatalf("%s: %+v, %v: used %+v, code %d; not %+v, %d", promise, q, calls, m.Used(), m.Code(), want.told(), want.code)
	}
}

func TestExamples(t *testing.T) {
	m := meter.New(api.Quota{Mem: 10})
	if !m.Mem(6) || m.Code() != api.OK {
		t.Error("P3.1: 6 of 10 bytes")
	}
	if m.Mem(5) || m.Code() != api.QMem {
		t.Errorf("P3.1: 5 of 4 bytes: code %d", m.Code())
	}
	m.Free(6)
	if m.Mem(1) || m.Code() != api.QMem || m.Used() != (api.Used{Peak: 6}) {
		t.Errorf("P3.1: a byte of a spent meter: used %+v, code %d", m.Used(), m.Code())
	}
	m = meter.New(api.Quota{})
	if !m.Step(0) || m.Code() != api.OK {
		t.Error("P3.1: no step of none")
	}
	if m.Step(1) || m.Code() != api.QSteps || m.Used() != (api.Used{}) {
		t.Errorf("P3.1: a step of none: used %+v, code %d", m.Used(), m.Code())
	}
}

func TestNewIsUnused(t *testing.T) {
	for _, n := range edges() {
		q := api.Quota{Mem: n, Out: n, Files: n, Depth: n, Steps: n}
		m := meter.New(q)
		if m.Used() != (api.Used{}) || m.Code() != api.OK {
			t.Errorf("P3.1: new of %d: used %+v, code %d", n, m.Used(), m.Code())
		}
		if !m.Mem(0) || !m.Out(0) || !m.Step(0) || m.Used() != (api.Used{}) {
			t.Errorf("P3.1: nothing, of %d: used %+v, code %d", n, m.Used(), m.Code())
		}
	}
}

// TestEachThingIsUsedToItsEdge: of each thing there is just as much as its quota says, whatever there is of the others.
func TestEachThingIsUsedToItsEdge(t *testing.T) {
	for _, e := range things() {
		for n := range 6 {
			m := meter.New(e.quota(n))
			for i := range n {
				if !(call{e.kind, 1}).of(m) || e.used(m.Used()) != i+1 || m.Code() != api.OK {
					t.Errorf("P3.1: code %d: %d of %d: used %+v, code %d", e.code, i+1, n, m.Used(), m.Code())
				}
			}
			ahead := m.Used()
			if (call{e.kind, 1}).of(m) || m.Code() != e.code || m.Used() != ahead {
				t.Errorf("P3.1: code %d: %d of %d: used %+v, code %d", e.code, n+1, n, m.Used(), m.Code())
			}
		}
	}
}

func TestManyAtATime(t *testing.T) {
	for _, e := range things() {
		if e.kind == file || e.kind == down {
			continue
		}
		for _, most := range edges() {
			for _, n := range edges() {
				m := meter.New(e.quota(most))
				got := call{e.kind, n}.of(m)
				fits, used, code := true, max(n, 0), api.OK
				if max(n, 0) > max(most, 0) {
					fits, used, code = false, 0, e.code
				}
				if got != fits || e.used(m.Used()) != used || m.Code() != code {
					t.Errorf("P3.1: code %d: %d of %d: %v, used %+v, code %d", e.code, n, most, got, m.Used(), m.Code())
				}
			}
		}
	}
}

// TestSpentStays: whichever quota was spent first, nothing is used any more, and the code is that quota's, though others would be gone beyond, too.
func TestSpentStays(t *testing.T) {
	for _, first := range things() {
		m := meter.New(first.quota(3))
		for range 4 {
			call{first.kind, 1}.of(m)
		}
		ahead := m.Used()
		for _, then := range things() {
			for _, n := range edges() {
				if (call{then.kind, n}).of(m) || m.Code() != first.code || m.Used() != ahead {
					t.Errorf("P3.1: spent by %d, %d of %d: used %+v, code %d", first.code, n, then.code, m.Used(), m.Code())
				}
			}
		}
	}
}

// TestSpentThoughThereIsMore: a meter that was spent by one thing gives nothing of the others, of which there is enough.
func TestSpentThoughThereIsMore(t *testing.T) {
	for _, first := range things() {
		m := meter.New(api.Quota{Mem: 9, Out: 9, Files: 9, Depth: 9, Steps: 9})
		for range 10 {
			call{first.kind, 1}.of(m)
		}
		m.Free(5)
		m.Up()
		ahead := m.Used()
		for _, then := range things() {
			if (call{then.kind, 1}).of(m) || m.Code() != first.code || m.Used() != ahead {
				t.Errorf("P3.1: spent by %d, then %d: used %+v, code %d", first.code, then.code, m.Used(), m.Code())
			}
		}
	}
}

func TestFree(t *testing.T) {
	for _, spent := range []bool{false, true} {
		for _, n := range edges() {
			for _, had := range edges() {
				m := meter.New(api.Quota{Mem: math.MaxInt, Out: 1, Files: 1, Depth: 1})
				m.Mem(had)
				m.Out(1)
				m.File()
				m.Down()
				if spent {
					m.Step(1)
				}
				m.Free(n)
				left := max(max(had, 0)-max(n, 0), 0)
				if want := (api.Used{Mem: left, Peak: max(had, 0), Out: 1, Files: 1, Depth: 1}); m.Used() != want {
					t.Errorf("P3.2: %d of %d given back, spent %v: %+v, not %+v", n, had, spent, m.Used(), want)
				}
				if (m.Code() != api.OK) != spent {
					t.Errorf("P3.2: %d of %d given back, spent %v: code %d", n, had, spent, m.Code())
				}
			}
		}
	}
}

func TestUp(t *testing.T) {
	for _, spent := range []bool{false, true} {
		m := meter.New(api.Quota{Mem: 2, Out: 2, Files: 1, Depth: 3})
		m.Mem(2)
		m.Out(2)
		m.File()
		for range 3 {
			m.Down()
		}
		if spent {
			m.Down()
		}
		for _, depth := range []int{2, 1, 0, 0, 0} {
			m.Up()
			if want := (api.Used{Mem: 2, Peak: 2, Out: 2, Files: 1, Depth: depth}); m.Used() != want {
				t.Errorf("P3.2: up, spent %v: %+v, not %+v", spent, m.Used(), want)
			}
		}
		if (m.Code() != api.OK) != spent || m.Down() == spent {
			t.Errorf("P3.2: up, spent %v: code %d", spent, m.Code())
		}
	}
}

// TestWhatWasGivenBackIsThereAgain: memory and depth are what is used now, and may be used again and again; the others are counted in all.
func TestWhatWasGivenBackIsThereAgain(t *testing.T) {
	m := meter.New(api.Quota{Mem: 7, Out: 9, Files: 3, Depth: 2, Steps: 6})
	for i := range 3 {
		if !m.Mem(7) || !m.Down() || !m.Down() || !m.Out(3) || !m.File() || !m.Step(2) {
			t.Errorf("P3.2: time %d: used %+v, code %d", i, m.Used(), m.Code())
		}
		if want := (api.Used{Mem: 7, Peak: 7, Out: 3 * (i + 1), Files: i + 1, Depth: 2, Steps: 2 * (i + 1)}); m.Used() != want {
			t.Errorf("P3.3: time %d: %+v, not %+v", i, m.Used(), want)
		}
		m.Free(7)
		m.Up()
		m.Up()
	}
	if want := (api.Used{Peak: 7, Out: 9, Files: 3, Steps: 6}); m.Used() != want || m.Code() != api.OK {
		t.Errorf("P3.3: %+v, not %+v; code %d", m.Used(), want, m.Code())
	}
}

func TestPeak(t *testing.T) {
	m := meter.New(api.Quota{Mem: 100})
	for _, e := range []struct {
		c         call
		mem, peak int
	}{
		{call{mem, 0}, 0, 0},
		{call{mem, 5}, 5, 5},
		{call{mem, 4}, 9, 9},
		{call{free, 6}, 3, 9},
		{call{mem, 5}, 8, 9},
		{call{mem, 1}, 9, 9},
		{call{mem, 1}, 10, 10},
		{call{free, 100}, 0, 10},
		{call{mem, 9}, 9, 10},
		{call{mem, 91}, 100, 100},
		{call{free, 1}, 99, 100},
		{call{mem, 2}, 99, 100}, // too many: not used
		{call{free, 99}, 0, 100},
	} {
		e.c.of(m)
		if u := m.Used(); u.Mem != e.mem || u.Peak != e.peak {
			t.Errorf("P3.3: %+v: memory %d, peak %d; not %d, %d", e.c, u.Mem, u.Peak, e.mem, e.peak)
		}
	}
	m = meter.New(api.Quota{Mem: 10})
	m.Mem(4)
	m.Mem(7)
	if u := m.Used(); u.Mem != 4 || u.Peak != 4 {
		t.Errorf("P3.3: what wasn't given is told: %+v", u)
	}
}

func TestTellingChangesNothing(t *testing.T) {
	m := meter.New(api.Quota{Mem: 5})
	m.Mem(3)
	u := m.Used()
	u.Mem, u.Peak, u.Steps = 99, 99, 99
	for range 3 {
		if m.Code() != api.OK || m.Used() != (api.Used{Mem: 3, Peak: 3}) {
			t.Errorf("P3.3: used %+v, code %d", m.Used(), m.Code())
		}
	}
}

func TestTwoMetersShareNothing(t *testing.T) {
	q := api.Quota{Mem: 4, Out: 4, Files: 4, Depth: 4, Steps: 4}
	one, two := meter.New(q), meter.New(q)
	one.Mem(4)
	one.Out(5)
	two.Step(3)
	if two.Used() != (api.Used{Steps: 3}) || two.Code() != api.OK {
		t.Errorf("P3.1: a meter has what another used: %+v, code %d", two.Used(), two.Code())
	}
	if one.Used() != (api.Used{Mem: 4, Peak: 4}) || one.Code() != api.QOut {
		t.Errorf("P3.1: %+v, code %d", one.Used(), one.Code())
	}
}

// TestShortRowsOfCallsAreAsTheModelSays goes through every row of five calls with little numbers.
func TestShortRowsOfCallsAreAsTheModelSays(t *testing.T) {
	calls := []call{{mem, 1}, {mem, 2}, {mem, -1}, {free, 1}, {free, 2}, {out, 1}, {file, 0}, {down, 0}, {up, 0}, {step, 1}, {step, 0}}
	const long = 5
	all := 1
	for range long {
		all *= len(calls)
	}
	for _, q := range []api.Quota{{Mem: 2, Out: 1, Files: 1, Depth: 1, Steps: 1}, {Mem: 3, Out: -1, Files: 2, Depth: 2, Steps: 2}} {
		for i := range all {
			m, want := meter.New(q), newModel(q)
			var row []call
			for j := i; len(row) < long; j /= len(calls) {
				c := calls[j%len(calls)]
				row = append(row, c)
				same(t, "P3.1, P3.2, P3.3", q, row, m, c.of(m), want, want.answer(c))
			}
		}
	}
}

// TestLongRowsOfCallsAreAsTheModelSays: numbers of all sizes; nothing wraps, and nothing is used beyond its quota.
func TestLongRowsOfCallsAreAsTheModelSays(t *testing.T) {
	list := edges()
	for seed := range int64(20000) {
		r := rand.New(rand.NewSource(seed))
		pick := func() int { return list[r.Intn(len(list))] }
		q := api.Quota{Mem: pick(), Out: pick(), Files: pick(), Depth: pick(), Steps: pick()}
		if seed%2 == 0 { // so that rows are long, too
			q = api.Quota{Mem: math.MaxInt - r.Intn(3), Out: math.MaxInt, Files: 10, Depth: 5, Steps: math.MaxInt - 1}
		}
		m, want := meter.New(q), newModel(q)
		var row []call
		for range 20 {
			c := call{r.Intn(kinds), pick()}
			row = append(row, c)
			same(t, "P3.4", q, row, m, c.of(m), want, want.answer(c))
			within(t, q, m.Used())
		}
	}
}

// within: nothing is used beyond its quota, or below 0.
func within(t *testing.T, q api.Quota, u api.Used) {
	t.Helper()
	for _, e := range [][2]int{{u.Mem, q.Mem}, {u.Peak, q.Mem}, {u.Out, q.Out}, {u.Files, q.Files}, {u.Depth, q.Depth}, {u.Steps, q.Steps}} {
		if e[0] < 0 || e[0] > max(e[1], 0) {
			t.Fatalf("P3.4: %+v of %+v", u, q)
		}
	}
}

func TestNothingWraps(t *testing.T) {
	for _, e := range things() {
		if e.kind == file || e.kind == down {
			continue
		}
		m := meter.New(e.quota(math.MaxInt))
		if !(call{e.kind, math.MaxInt - 1}).of(m) || !(call{e.kind, 1}).of(m) || e.used(m.Used()) != math.MaxInt {
			t.Errorf("P3.4: code %d: used %+v, code %d", e.code, m.Used(), m.Code())
		}
		for _, n := range []int{1, 2, math.MaxInt - 1, math.MaxInt} {
			m := meter.New(e.quota(math.MaxInt))
			call{e.kind, math.MaxInt}.of(m)
			if (call{e.kind, n}).of(m) || e.used(m.Used()) != math.MaxInt || m.Code() != e.code {
				t.Errorf("P3.4: code %d: %d beyond the greatest: used %+v, code %d", e.code, n, m.Used(), m.Code())
			}
		}
	}
}

// TestGreaterQuota: as long as the smaller quota isn't spent, a greater one answers the same.
func TestGreaterQuota(t *testing.T) {
	for seed := range int64(5000) {
		r := rand.New(rand.NewSource(seed))
		q := api.Quota{Mem: r.Intn(20), Out: r.Intn(20), Files: r.Intn(5), Depth: r.Intn(5), Steps: r.Intn(20)}
		greater := q
		for _, n := range []*int{&greater.Mem, &greater.Out, &greater.Files, &greater.Depth, &greater.Steps} {
			if r.Intn(2) == 0 {
				*n += []int{1, 2, 30, math.MaxInt - 20}[r.Intn(4)]
			}
		}
		less, more := meter.New(q), meter.New(greater)
		for range 30 {
			c := call{r.Intn(kinds), r.Intn(6) - 1}
			a, b := c.of(less), c.of(more)
			if less.Code() != api.OK {
				break
			}
			if a != b || less.Used() != more.Used() || more.Code() != api.OK {
				t.Fatalf("P3.4: %+v, %+v, %+v: %v %+v, but %v %+v", q, greater, c, a, less.Used(), b, more.Used())
			}
		}
	}
}

// atOnce runs work so many times, all at once, and waits for all of them.
func atOnce(times int, work func()) {
	var all sync.WaitGroup
	for range times {
		all.Go(work)
	}
	all.Wait()
}

// TestMoreAtOnceThanThereMayBe: numbers are changed only if they are still what they were, so that what is used is what was granted.
func TestMoreAtOnceThanThereMayBe(t *testing.T) {
	for _, e := range things() {
		const most = 20000
		m := meter.New(e.quota(most))
		var granted atomic.Int64
		atOnce(8, func() {
			for range most {
				if (call{e.kind, 1}).of(m) {
					granted.Add(1)
				}
			}
		})
		if granted.Load() != most || e.used(m.Used()) != most || m.Code() != e.code {
			t.Errorf("P3.4: %d granted of %d: used %+v, code %d", granted.Load(), most, m.Used(), m.Code())
		}
	}
}

func TestTakingAndGivingBackAtOnce(t *testing.T) {
	m := meter.New(api.Quota{Mem: 8 * 3, Depth: 8})
	atOnce(8, func() {
		for range 20000 {
			if m.Mem(3) {
				m.Free(3)
			}
			if m.Down() {
				m.Up()
			}
		}
	})
	u := m.Used()
	if u.Mem != 0 || u.Depth != 0 || u.Peak < 3 || u.Peak > 24 || u.Peak%3 != 0 || m.Code() != api.OK {
		t.Errorf("P3.2: used %+v, code %d", u, m.Code())
	}
}

// TestSpentAtOnce: of several quotas that are spent at once one is the first; its code is what everybody sees from then on.
func TestSpentAtOnce(t *testing.T) {
	meters := make([]*meter.Meter, 20000)
	for i := range meters {
		meters[i] = meter.New(api.Quota{})
	}
	seen := make([][]api.Code, len(things()))
	var begun atomic.Int64
	atOnce(len(seen), func() {
		i := begun.Add(1) - 1
		for _, m := range meters {
			call{things()[i].kind, 1}.of(m)
			seen[i] = append(seen[i], m.Code())
		}
	})
	for j, m := range meters {
		for i := range seen {
			if seen[i][j] == api.OK || seen[i][j] != m.Code() {
				t.Fatalf("P3.3: code %d, then %d", seen[i][j], m.Code())
			}
		}
	}
}
