package meter_test

import (
	"math"

	"garbler/api"
	"garbler/meter"
)

// The kinds of calls that change a meter.
const (
	mem = iota
	out
	file
	down
	step
	free
	up
	kinds
)

// call is a call that changes a meter; n has no meaning for file, down, up.
type call struct {
	kind int
	n    int
}

// of: what a meter answers (Free and Up answer nothing: true).
func (c call) of(m *meter.Meter) bool {
	switch c.kind {
	case mem:
		return m.Mem(c.n)
	case out:
		return m.Out(c.n)
	case file:
		return m.File()
	case down:
		return m.Down()
	case step:
		return m.Step(c.n)
	case free:
		m.Free(c.n)
	case up:
		m.Up()
	}
	return true
}

// model goes through the chapter's words one by one, on numbers that are too wide to wrap: no sum of two ints is above 2^64 - 1.
type model struct {
	quota [free]uint64 // by the kind of the call that uses it
	used  [free]uint64
	peak  uint64
	code  api.Code
}

// whole: a number, of which those below 0 count as 0.
func whole(n int) uint64 {
	if n < 0 {
		return 0
	}
	return uint64(n)
}

func newModel(q api.Quota) *model {
	return &model{quota: [free]uint64{whole(q.Mem), whole(q.Out), whole(q.Files), whole(q.Depth), whole(q.Steps)}}
}

func (m *model) answer(c call) bool {
	switch c.kind {
	case mem, out, step:
		return m.use(c.kind, whole(c.n))
	case file, down:
		return m.use(c.kind, 1)
	case free:
		m.less(mem, whole(c.n))
	case up:
		m.less(down, 1)
	}
	return true
}

func (m *model) use(kind int, n uint64) bool {
	codes := [free]api.Code{101, 102, 103, 104, 105}
	if m.code != 0 {
		return false
	}
	if m.used[kind]+n > m.quota[kind] {
		m.code = codes[kind]
		return false
	}
	m.used[kind] += n
	if kind == mem && m.used[mem] > m.peak {
		m.peak = m.used[mem]
	}
	return true
}

func (m *model) less(kind int, n uint64) {
	if n > m.used[kind] {
		n = m.used[kind]
	}
	m.used[kind] -= n
}

func (m *model) told() api.Used {
	return api.Used{Mem: int(m.used[mem]), Peak: int(m.peak), Out: int(m.used[out]), Files: int(m.used[file]), Depth: int(m.used[down]), Steps: int(m.used[step])}
}

// edges: numbers at which an answer could go over into another one, or wrap.
func edges() []int {
	return []int{math.MinInt, math.MinInt + 1, math.MinInt32, -2, -1, 0, 1, 2, 3, 4, 5, 7, 10, math.MaxInt32, math.MaxInt32 + 1, math.MaxUint32, math.MaxUint32 + 1, math.MaxInt / 2, math.MaxInt/2 + 1, math.MaxInt - 2, math.MaxInt - 1, math.MaxInt}
}
