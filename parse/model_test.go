package parse_test

import "garbler/api"

// model has what the words of chapter 10 speak of. It tries each distance that there is, and each length.
type model struct {
	b    []byte
	to   int
	dict int
	reps [4]uint32
}

// possible: whether a copy of l bytes at the distance d is possible at the place i.
func (m *model) possible(i, d, l int) bool {
	if d < 0 || d >= i || d >= m.dict || l > 273 || l > m.to-i {
		return false
	}
	for k := range l {
		if m.b[i+k] != m.b[i+k-1-d] {
			return false
		}
	}
	return true
}

// longest: the length of the longest copy; 0, if none is possible.
func (m *model) longest(i, d int) int {
	l := 0
	for next := 2; m.possible(i, d, next); next++ {
		l = next
	}
	return l
}

// packet: the first packet of the chapter's four that there is, and its bytes.
func (m *model) packet(i int) (api.Packet, int) {
	which, r := 0, 0
	for k, d := range m.reps {
		if l := m.longest(i, int(d)); l > r {
			which, r = k, l
		}
	}
	dist, most := 0, 0
	for d := range i {
		if l := m.longest(i, d); l > most {
			dist, most = d, l
		}
	}
	e := m.reps
	if r >= 2 && r+1 >= most {
		m.reps = [][4]uint32{e, {e[1], e[0], e[2], e[3]}, {e[2], e[0], e[1], e[3]}, {e[3], e[0], e[1], e[2]}}[which]
		return api.Packet{Kind: []int{api.Again0, api.Again1, api.Again2, api.Again3}[which], Len: r}, r
	}
	if most >= 3 || most == 2 && dist < 128 {
		m.reps = [4]uint32{uint32(dist), e[0], e[1], e[2]}
		return api.Packet{Kind: api.Match, Len: most, Dist: uint32(dist)}, most
	}
	if d := int(e[0]); d < i && d < m.dict && m.b[i] == m.b[i-1-d] {
		return api.Packet{Kind: api.Single}, 1
	}
	return api.Packet{Kind: api.Literal, Byte: m.b[i]}, 1
}

// found: the packets of some bytes, and the elder distances behind them, by the chapter's words.
func found(b []byte, from, to, dict int, reps [4]uint32) ([]api.Packet, [4]uint32) {
	if from < 0 {
		from = 0
	}
	if from > len(b) {
		from = len(b)
	}
	if to < from {
		to = from
	}
	if to > len(b) {
		to = len(b)
	}
	if dict < 1 {
		dict = 1
	}
	m := &model{b: b, to: to, dict: dict, reps: reps}
	var list []api.Packet
	for i := from; i < to; {
		x, n := m.packet(i)
		list = append(list, x)
		i += n
	}
	return list, m.reps
}
