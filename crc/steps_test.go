package crc

import "testing"

// TestStepsOnce: the steps are reckoned when a byte is there for the first time, and not again.
func TestStepsOnce(t *testing.T) {
	for _, add := range []func(s *Sum){
		func(s *Sum) { s.Byte(1) },
		func(s *Sum) { s.Add([]byte{1}) },
	} {
		s := New()
		s.Add(nil)
		s.Value()
		if s.steps != [256]uint32{} {
			t.Error("reckoned, though nothing was taken")
		}
		add(s)
		if s.steps[1] != 0x77073096 || s.steps[128] != taps {
			t.Errorf("steps of 1 and of 128: %x and %x", s.steps[1], s.steps[128])
		}
		s.steps[1] = 5
		s.Byte(2)
		s.Add([]byte{3, 4})
		if s.steps[1] != 5 {
			t.Error("reckoned once more")
		}
	}
}
