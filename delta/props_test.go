package delta_test

import (
	"bytes"
	"testing"

	"garbler/api"
	"garbler/delta"
)

func TestMay(t *testing.T) {
	for d := 1; d <= 256; d++ {
		if !delta.May(d) {
			t.Errorf("P13.1: %d may not be", d)
		}
	}
	for _, d := range wrong() {
		if delta.May(d) {
			t.Errorf("P13.1: %d may be", d)
		}
	}
}

func TestParse(t *testing.T) {
	for x := range 256 {
		props := []byte{byte(x)}
		if d, code := delta.Parse(props); d != x+1 || code != api.OK {
			t.Errorf("P13.1: Parse(%d): %d, code %d", x, d, code)
		}
		if props[0] != byte(x) {
			t.Errorf("P13.1: Parse(%d) left %d", x, props[0])
		}
	}
}

// TestParseOfNotOneByte: none, or more, whatever they are; spare room is no byte of them.
func TestParseOfNotOneByte(t *testing.T) {
	list := [][]byte{nil, {}, []byte{5}[:0], {0, 0}, {5, 0}, {0, 5}, {255, 255}, {1, 2, 3}, make([]byte, 5), make([]byte, 256), make([]byte, 257), make([]byte, 1<<16+1)}
	for _, props := range list {
		if d, code := delta.Parse(props); d != 0 || code != api.Props {
			t.Errorf("P13.1: Parse of %d bytes: %d, code %d", len(props), d, code)
		}
	}
	if d, code := delta.Parse([]byte{7, 8, 9}[:1]); d != 8 || code != api.OK {
		t.Errorf("P13.1: Parse of a byte with spare room: %d, code %d", d, code)
	}
}

func TestProps(t *testing.T) {
	for d := 1; d <= 256; d++ {
		props := delta.Props(d)
		if !bytes.Equal(props, []byte{byte(d - 1)}) {
			t.Errorf("P13.1: Props(%d): %v", d, props)
		}
		if got, code := delta.Parse(props); got != d || code != api.OK {
			t.Errorf("P13.1: Parse(Props(%d)): %d, code %d", d, got, code)
		}
	}
	for _, d := range wrong() {
		if props := delta.Props(d); len(props) != 0 {
			t.Errorf("P13.1: Props(%d): %v", d, props)
		}
	}
}

// TestPropsAreNewMemory: what is written over in one answer isn't seen in another.
func TestPropsAreNewMemory(t *testing.T) {
	one, two := delta.Props(9), delta.Props(9)
	one[0] = 77
	if two[0] != 8 || delta.Props(9)[0] != 8 {
		t.Error("P13.1: answers share memory")
	}
}
