package bcj2_test

import (
	"bytes"
	"math/rand"

	"garbler/api"
	"garbler/rdec"
	"garbler/renc"
)

// tape is a source that tells how often it was asked. Beside a false it gives a byte that is none.
type tape struct {
	b     []byte
	asked int
}

func (s *tape) Next() (byte, bool) {
	s.asked++
	if s.asked > len(s.b) {
		return 0xe8, false
	}
	return s.b[s.asked-1], true
}

const whole = int64(1) << 32

// The kinds of instructions, by the probabilities that they have: a call's has its byte ahead added.
const (
	modelNone = -1 - iota
	modelJump
	modelFar
)

// modelKind: which instruction a byte is, by the chapter's words.
func modelKind(ahead, x byte) int {
	if x == 0xe8 {
		return int(ahead)
	}
	if x == 0xe9 {
		return modelJump
	}
	if ahead == 0x0f && x >= 0x80 && x <= 0x8f {
		return modelFar
	}
	return modelNone
}

// modelChances are probabilities, each of which begins when it is asked for.
type modelChances map[int]*uint16

func (c modelChances) of(kind int) *uint16 {
	if c[kind] == nil {
		c[kind] = &rdec.Fresh(1)[0]
	}
	return c[kind]
}

// modelTold: what four streams tell of a size by the chapter's words, on numbers that don't wrap; and whether they aren't bad, and end.
func modelTold(s api.Four, size int) ([]byte, bool) {
	code := &tape{b: s.Code}
	d, chances := rdec.New(code), modelChances{}
	main, call, jump := s.Main, s.Call, s.Jump
	told, ahead := []byte{}, byte(0)
	for len(told) < size {
		if d.Bad() || len(main) == 0 {
			return told, false
		}
		x := main[0]
		main = main[1:]
		told = append(told, x)
		kind := modelKind(ahead, x)
		ahead = x
		if kind == modelNone || len(told) == size || d.Bit(chances.of(kind)) == 0 {
			continue
		}
		from := &jump
		if kind >= 0 {
			from = &call
		}
		if len(*from) < 4 || size-len(told) < 4 {
			return told, false
		}
		place := int64(0)
		for _, y := range (*from)[:4] {
			place = place*256 + int64(y)
		}
		*from = (*from)[4:]
		target := (place - int64(len(told)) - 4 + 2*whole) % whole
		for range 4 {
			ahead = byte(target % 256)
			told = append(told, ahead)
			target /= 256
		}
	}
	return told, len(main)+len(call)+len(jump) == 0 && code.asked == len(code.b) && d.Done()
}

// modelCoded: the four streams of bytes by the chapter's words.
func modelCoded(b []byte) api.Four {
	return laid(b, func(place int64) bool { return place < int64(len(b)) })
}

// laid: four streams that tell b, of which apart says which targets stand apart. Those of the coder stand apart by another rule than a decoder asks for: it takes all.
func laid(b []byte, apart func(place int64) bool) api.Four {
	c, chances := renc.New(), modelChances{}
	var s api.Four
	ahead := byte(0)
	for i := 0; i < len(b); i++ {
		s.Main = append(s.Main, b[i])
		kind := modelKind(ahead, b[i])
		ahead = b[i]
		if kind == modelNone || i+1 == len(b) {
			continue
		}
		place := whole
		if i+4 < len(b) {
			place = (int64(b[i+1]) + int64(b[i+2])<<8 + int64(b[i+3])<<16 + int64(b[i+4])<<24 + int64(i) + 5) % whole
		}
		if place == whole || !apart(place) {
			c.Bit(chances.of(kind), 0)
			continue
		}
		c.Bit(chances.of(kind), 1)
		four := []byte{byte(place / (1 << 24)), byte(place / (1 << 16) % 256), byte(place / 256 % 256), byte(place % 256)}
		if kind >= 0 {
			s.Call = append(s.Call, four...)
		} else {
			s.Jump = append(s.Jump, four...)
		}
		ahead = b[i+4]
		i += 4
	}
	s.Code = c.Finish()
	return s
}

// lists: the four lists of what a filter has, that each may be changed.
func lists(s *api.Four) []*[]byte { return []*[]byte{&s.Main, &s.Call, &s.Jump, &s.Code} }

func clone(s api.Four) api.Four {
	for _, l := range lists(&s) {
		*l = bytes.Clone(*l)
	}
	return s
}

func equal(a, b api.Four) bool {
	for i, l := range lists(&a) {
		if !bytes.Equal(*l, *lists(&b)[i]) {
			return false
		}
	}
	return true
}

// row: n bytes of some kinds, that hang on seed alone.
func row(seed int64, n int, kinds []byte) []byte {
	r := rand.New(rand.NewSource(seed))
	b := make([]byte, n)
	for i := range b {
		b[i] = kinds[r.Intn(len(kinds))]
	}
	return b
}

// some: kinds of bytes, with ever fewer instructions among them.
func some() [][]byte {
	every := make([]byte, 256)
	for i := range every {
		every[i] = byte(i)
	}
	return [][]byte{
		{0xe8},
		{0xe8, 0xe9},
		{0x0f, 0x80},
		{0x0f, 0x8f, 0xe8, 0xe9},
		{0xe8, 0},
		{0xe9, 0xff},
		{0x0f, 0x84, 0, 0},
		{0xe8, 0xe9, 0, 0, 0, 0, 1},
		{0xe8, 0x0f, 0x8a, 0, 0, 0, 0, 0xff, 0xff, 0xff, 0xf0},
		{0xe8, 0xe9, 0x0f, 0x7f, 0x80, 0x8f, 0x90, 0, 0, 0},
		{0xe7, 0xea, 0x68, 0xc8, 0x0e, 0x1f, 0x0f, 0x88, 0, 0, 0},
		append(bytes.Repeat([]byte{0xe8, 0xe9, 0x0f, 0x85, 0, 0, 0, 0, 0, 0xff, 0xff, 0xff}, 9), every...),
		every,
	}
}

// each hands every row of up to most bytes of some kinds out, in one memory that is written over.
func each(kinds []byte, most int, does func(b []byte)) {
	b := make([]byte, 0, most)
	var longer func()
	longer = func() {
		does(b)
		if len(b) == most {
			return
		}
		for _, x := range kinds {
			b = append(b, x)
			longer()
			b = b[:len(b)-1]
		}
	}
	longer()
}

// short: a row, or, of a long one, how it begins.
func short(b []byte) []byte { return b[:min(len(b), 64)] }
