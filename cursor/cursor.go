// Package cursor puts numbers, texts and blocks behind one another as bytes, and takes them back: layer 1.
package cursor

import (
	"clevis/api"
)

// How many bytes tell the length of a text, and of a block.
const (
	textSize  = 2
	blockSize = 4
)

// failure is what writers and readers have in common: only the first error counts, since nothing is written or read after it.
type failure struct {
	first api.Errno
}

func (f *failure) fail(e api.Errno) {
	if f.first == api.OK {
		f.first = e
	}
}

func (f *failure) failed() bool {
	return f.first != api.OK
}

func isSize(size int) bool {
	switch size {
	case 1, 2, 4, 8:
		return true
	}
	return false
}

// fits needs no case for eight bytes: a shift by 64 leaves 0 of every number, and so every number fits.
func fits(size, n int) bool {
	return uint64(n)>>(8*size) == 0
}
