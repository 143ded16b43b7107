package lzma_test

import "encoding/hex"

// vector is a stream with an end mark, its setting's properties, and what it tells.
type vector struct {
	props  []byte
	stream []byte
	text   string
}

// foreign: streams that another coder made.
func foreign() []vector {
	return []vector{
		{bytesOf("5d00000100"), bytesOf("0083fffbffffc0000000"), ""},
		{
			bytesOf("5d00000100"),
			bytesOf("003a1a08ce76fdacb62fa4ae3a66e23be88619b662c46559bf8a2d5ee389f0d2d2c8d9347f852965b459776a577ffde45800"),
			"the window that was, the window that is, the window that will be: that was that.",
		},
		{
			bytesOf("1200100000"),
			bytesOf("0030994da29787deb20c77ce870a51d039f7ab1f82de43ffffbb6c0000"),
			"abcabcabcabc-abcabcabcabc-xbcxbcxbcxbc-0000000000000000000000000000000000000-abcabcabcabc-0000",
		},
		{
			bytesOf("c600001000"),
			bytesOf("000067fec10a82ad097614a817b26aba026c28cba5509ffceddc00"),
			"\x00\x00\x00\x01\x00\x00\x00\x02\x00\x00\x00\x03\x00\x00\x00\x04\x00\x00\x01\x04\x00\x00\x01\x05\x00\x00\x01\x06\x00\x00\x01\x07",
		},
	}
}

func bytesOf(text string) []byte {
	b, err := hex.DecodeString(text)
	if err != nil {
		panic(err)
	}
	return b
}
