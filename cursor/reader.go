package cursor

import (
	"clevis/api"
	"slices"
)

// Reader takes pieces from bytes, from the first to the last.
type Reader struct {
	failure
	rest []byte
}

// NewReader returns a reader at the beginning of b, of which it keeps a copy.
func NewReader(b []byte) *Reader {
	return &Reader{rest: slices.Clone(b)}
}

// Num reads a number of size bytes.
func (r *Reader) Num(size int) int {
	if !isSize(size) {
		r.fail(api.ErrArg)
		return 0
	}
	return number(r.take(size))
}

// Text reads a string behind its length.
func (r *Reader) Text() string {
	return string(r.measured(textSize, api.MaxText))
}

// Block reads bytes behind their length.
func (r *Reader) Block() []byte {
	return slices.Clone(r.measured(blockSize, api.MaxBlock))
}

// Raw reads n bytes.
func (r *Reader) Raw(n int) []byte {
	if n < 0 {
		r.fail(api.ErrArg)
		return nil
	}
	return slices.Clone(r.take(n))
}

// Left returns the number of bytes that were not read yet.
func (r *Reader) Left() int {
	return len(r.rest)
}

// Fault returns the error of the first call that failed.
func (r *Reader) Fault() api.Errno {
	return r.first
}

// End returns what is wrong if nothing more is to be read. It is a question, not a reading: its answer is no failure.
func (r *Reader) End() api.Errno {
	if !r.failed() && len(r.rest) > 0 {
		return api.ErrCursorRest
	}
	return r.first
}

// take returns a piece of what the reader keeps, which a caller must not get.
func (r *Reader) take(n int) []byte {
	if n > len(r.rest) {
		r.fail(api.ErrCursorShort)
	}
	if r.failed() {
		return nil
	}
	b := r.rest[:n]
	r.rest = r.rest[n:]
	return b
}

func (r *Reader) measured(size, most int) []byte {
	before := r.rest
	n := number(r.take(size))
	if n > most {
		r.fail(api.ErrLong)
	}
	b := r.take(n)
	if r.failed() {
		// The length may have been read already, and a call that fails reads nothing.
		r.rest = before
	}
	return b
}

func number(b []byte) int {
	n := 0
	for i, c := range b {
		n |= int(c) << (8 * i)
	}
	return n
}
