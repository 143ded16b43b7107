package src

import "bytes"

// Feed gives bytes one by one.
type Feed struct {
	b  []byte
	at int
}

// NewFeed makes a feed.
func NewFeed(b []byte) *Feed {
	return &Feed{b: bytes.Clone(b)} // the caller may write b over
}

// Next: the next byte.
func (f *Feed) Next() (byte, bool) {
	if f.at == len(f.b) {
		return 0, false
	}
	b := f.b[f.at]
	f.at++
	return b, true
}

// Left: how many bytes are left.
func (f *Feed) Left() int { return len(f.b) - f.at }
