package lzma

import (
	"reflect"
	"testing"
)

// TestRoom: the arrays have no more probabilities than the meter is asked for.
func TestRoom(t *testing.T) {
	if size := int(reflect.TypeFor[chances]().Size()); size != ofProb*ofPackets {
		t.Errorf("P8.2: %d bytes of probabilities, not %d", size, ofProb*ofPackets)
	}
}
