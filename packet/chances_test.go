package packet

import (
	"reflect"
	"testing"
)

// TestRoom: there are no more probabilities than are counted, for which a decoder's meter is asked.
func TestRoom(t *testing.T) {
	one := int(reflect.TypeFor[uint16]().Size())
	if size := int(reflect.TypeFor[Chances]().Size()); size != one*OfChances {
		t.Errorf("P8.2: %d bytes of probabilities, not %d", size, one*OfChances)
	}
}
