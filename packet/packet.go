// Package packet holds what the decoder and the coder of LZMA's packets (layers 8 and 9) have alike: probabilities, states, and elder distances. What finds packets (layer 10) has the distances, too.
package packet

import "math"

const (
	EndMark     = math.MaxUint32 // the distance that is none
	LeastLength = 2              // bytes of a packet whose length is told as 0
)

// Distances are the elder distances, the first one first.
type Distances [4]uint32

// Push: a new one comes first, and the last one is forgotten.
func (d *Distances) Push(first uint32) {
	copy(d[1:], d[:])
	d[0] = first
}

// Raise: one of them comes ahead of those that were ahead of it.
func (d *Distances) Raise(which int) {
	first := d[which]
	copy(d[1:which+1], d[:which])
	d[0] = first
}
