package parse_test

import (
	"math"
	"math/rand"
	"slices"
	"strconv"
	"testing"

	"garbler/api"
	"garbler/parse"
)

// asked is all that Find is asked.
type asked struct {
	b              []byte
	from, to, dict int
	reps           [4]uint32
}

// String: bytes of which there are many are told by their number.
func (q asked) String() string {
	text := strconv.Itoa(len(q.b)) + " bytes"
	if len(q.b) <= 80 {
		text = strconv.Quote(string(q.b))
	}
	for _, n := range []int{q.from, q.to, q.dict, int(q.reps[0]), int(q.reps[1]), int(q.reps[2]), int(q.reps[3])} {
		text += " " + strconv.Itoa(n)
	}
	return text
}

// find: what Find answers.
func (q asked) find() ([]api.Packet, [4]uint32) {
	return parse.Find(q.b, q.from, q.to, q.dict, q.reps)
}

// is holds that Find answers these packets and distances.
func (q asked) is(t *testing.T, list []api.Packet, reps [4]uint32) {
	t.Helper()
	got, behind := q.find()
	if !slices.Equal(got, list) || behind != reps {
		t.Fatalf("P10.1: %v: %v, then %v; not %v, then %v", q, got, behind, list, reps)
	}
}

// isModels holds that Find answers as the model does.
func (q asked) isModels(t *testing.T) {
	t.Helper()
	list, reps := found(q.b, q.from, q.to, q.dict, q.reps)
	q.is(t, list, reps)
}

// whole: all of a text, with a great dictionary.
func whole(text string, reps ...uint32) asked {
	q := asked{b: []byte(text), to: len(text), dict: 1 << 20}
	copy(q.reps[:], reps)
	return q
}

// behind: the rest of a text behind its first bytes.
func (q asked) behind(from int) asked {
	q.from = from
	return q
}

func (q asked) till(to int) asked {
	q.to = to
	return q
}

func (q asked) within(dict int) asked {
	q.dict = dict
	return q
}

func literal(b byte) api.Packet { return api.Packet{Kind: api.Literal, Byte: b} }

func match(n int, dist uint32) api.Packet { return api.Packet{Kind: api.Match, Len: n, Dist: dist} }

func again(which, n int) api.Packet { return api.Packet{Kind: api.Again0 + which, Len: n} }

func single() api.Packet { return api.Packet{Kind: api.Single} }

// listed: packets, one behind the other, of texts (literals), packets, and lists.
func listed(parts ...any) []api.Packet {
	var list []api.Packet
	for _, x := range parts {
		switch x := x.(type) {
		case string:
			for i := range len(x) {
				list = append(list, literal(x[i]))
			}
		case api.Packet:
			list = append(list, x)
		case []api.Packet:
			list = append(list, x...)
		}
	}
	return list
}

// times: a packet, n times.
func times(n int, x api.Packet) []api.Packet { return slices.Repeat([]api.Packet{x}, n) }

// filler: n bytes, at most 128, of which each stands once, and none in a text of letters.
func filler(n int) string {
	b := make([]byte, n)
	for i := range b {
		b[i] = byte(128 + i)
	}
	return string(b)
}

// anyBytes: n bytes of so many kinds: apart, in rows of one byte, and copied from anywhere ahead, sometimes with a slip.
func anyBytes(r *rand.Rand, n, kinds int) []byte {
	var b []byte
	for len(b) < n {
		switch k := r.Intn(4); {
		case k == 0 && len(b) > 0:
			d, l := r.Intn(1+r.Intn(len(b))), 1+r.Intn(1+r.Intn(400))
			for range l {
				b = append(b, b[len(b)-1-d])
			}
			b[len(b)-1] ^= byte(r.Intn(8) / 7)
		case k == 1:
			b = append(b, slices.Repeat([]byte{byte(r.Intn(kinds))}, 1+r.Intn(1+r.Intn(20)))...)
		default:
			b = append(b, byte(r.Intn(kinds)))
		}
	}
	return b[:n]
}

// anyReps: elder distances: near ones, the same ones, and ones at which nothing lies.
func anyReps(r *rand.Rand, n int) [4]uint32 {
	var reps [4]uint32
	for i := range reps {
		switch r.Intn(8) {
		case 0:
			reps[i] = []uint32{0, uint32(n), math.MaxInt32, math.MaxInt32 + 1, math.MaxUint32 - 1, math.MaxUint32}[r.Intn(6)]
		case 1:
			reps[i] = reps[r.Intn(i+1)]
		default:
			reps[i] = uint32(r.Intn(1 + r.Intn(n+2)))
		}
	}
	return reps
}

// anyAsked: bytes of a length below most, and numbers of which some lie beyond them.
func anyAsked(r *rand.Rand, most int) asked {
	n := r.Intn(most)
	q := asked{b: anyBytes(r, n, []int{1, 2, 2, 3, 4, 20, 256}[r.Intn(7)]), to: n, dict: 1 + r.Intn(n+2), reps: anyReps(r, n)}
	if r.Intn(2) == 0 {
		q.from, q.to = r.Intn(n+4)-2, r.Intn(n+4)-2
	}
	if r.Intn(3) == 0 {
		q.dict = 1 << 20
	}
	return q
}
