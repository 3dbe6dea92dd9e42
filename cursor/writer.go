package cursor

import (
	"clevis/api"
	"slices"
)

// Writer collects pieces as bytes.
type Writer struct {
	failure
	done []byte
}

// NewWriter returns a writer without pieces.
func NewWriter() *Writer {
	return &Writer{}
}

// Num writes each number in size bytes.
func (w *Writer) Num(size int, ns ...int) {
	if !isSize(size) {
		w.fail(api.ErrArg)
		return
	}
	for _, n := range ns {
		w.number(size, n)
	}
}

// Text writes each string behind its length.
func (w *Writer) Text(ss ...string) {
	for _, s := range ss {
		w.measured(textSize, api.MaxText, []byte(s))
	}
}

// Block writes b behind its length.
func (w *Writer) Block(b []byte) {
	w.measured(blockSize, api.MaxBlock, b)
}

// Raw writes the bytes as they are.
func (w *Writer) Raw(b ...byte) {
	if !w.failed() {
		w.done = append(w.done, b...)
	}
}

// Bytes returns all that was written, or the first error.
func (w *Writer) Bytes() ([]byte, api.Errno) {
	if w.failed() {
		return nil, w.first
	}
	return slices.Clone(w.done), api.OK
}

func (w *Writer) number(size, n int) {
	if !fits(size, n) {
		w.fail(api.ErrCursorFits)
		return
	}
	for i := range size {
		w.Raw(byte(n >> (8 * i)))
	}
}

func (w *Writer) measured(size, most int, b []byte) {
	if len(b) > most {
		w.fail(api.ErrLong)
		return
	}
	w.number(size, len(b))
	w.Raw(b...)
}
