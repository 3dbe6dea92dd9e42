package cursor_test

import (
	"bytes"
	"math"
	"slices"
	"strings"
	"testing"

	"clevis/api"
	"clevis/cursor"
)

// written returns what a new writer has after the steps.
func written(steps ...func(w *cursor.Writer)) ([]byte, api.Errno) {
	w := cursor.NewWriter()
	for _, step := range steps {
		step(w)
	}
	return w.Bytes()
}

func wantWritten(t *testing.T, what string, want []byte, steps ...func(w *cursor.Writer)) {
	t.Helper()
	if b, e := written(steps...); e != api.OK || !bytes.Equal(b, want) {
		t.Errorf("%s: got %v, %d; want %v, 0", what, b, e, want)
	}
}

func wantRefused(t *testing.T, what string, want api.Errno, steps ...func(w *cursor.Writer)) {
	t.Helper()
	if b, e := written(steps...); e != want || len(b) != 0 {
		t.Errorf("%s: got %d bytes, %d; want none, %d", what, len(b), e, want)
	}
}

func num(size int, ns ...int) func(w *cursor.Writer) {
	return func(w *cursor.Writer) { w.Num(size, ns...) }
}

func text(ss ...string) func(w *cursor.Writer) {
	return func(w *cursor.Writer) { w.Text(ss...) }
}

func block(b []byte) func(w *cursor.Writer) {
	return func(w *cursor.Writer) { w.Block(b) }
}

func raw(b ...byte) func(w *cursor.Writer) {
	return func(w *cursor.Writer) { w.Raw(b...) }
}

// P1.1: a new writer has no pieces, and pieces without content are few bytes or none.
func TestWriterWithoutPieces(t *testing.T) {
	wantWritten(t, "nothing", nil)
	wantWritten(t, "calls without pieces", nil, num(1), num(2), num(4), num(8), text(), raw())
	wantWritten(t, "empty text", []byte{0, 0}, text(""))
	wantWritten(t, "block of nil", []byte{0, 0, 0, 0}, block(nil))
	wantWritten(t, "empty block", []byte{0, 0, 0, 0}, block([]byte{}))
}

// P1.1: numbers have their least significant byte first, and each size has its greatest number.
func TestWriteNum(t *testing.T) {
	for _, c := range []struct {
		size, n int
		want    []byte
	}{
		{1, 0, []byte{0}},
		{1, 127, []byte{127}},
		{1, 128, []byte{128}},
		{1, 255, []byte{255}},
		{2, 0, []byte{0, 0}},
		{2, 1, []byte{1, 0}},
		{2, 256, []byte{0, 1}},
		{2, 258, []byte{2, 1}},
		{2, 65535, []byte{255, 255}},
		{4, 0, []byte{0, 0, 0, 0}},
		{4, 0x04030201, []byte{1, 2, 3, 4}},
		{4, 1 << 31, []byte{0, 0, 0, 128}},
		{4, 1<<32 - 1, []byte{255, 255, 255, 255}},
		{8, 0, make([]byte, 8)},
		{8, 0x0807060504030201, []byte{1, 2, 3, 4, 5, 6, 7, 8}},
		{8, 1 << 32, []byte{0, 0, 0, 0, 1, 0, 0, 0}},
		{8, math.MaxInt, []byte{255, 255, 255, 255, 255, 255, 255, 127}},
		{8, -1, []byte{255, 255, 255, 255, 255, 255, 255, 255}},
		{8, -2, []byte{254, 255, 255, 255, 255, 255, 255, 255}},
		{8, math.MinInt, []byte{0, 0, 0, 0, 0, 0, 0, 128}},
	} {
		wantWritten(t, "a number", c.want, num(c.size, c.n))
	}
}

// P1.1: each number of a call and each text of a call is a piece of its own, in order.
func TestWriteManyInOrder(t *testing.T) {
	wantWritten(t, "numbers", []byte{1, 0, 2, 0, 3, 1}, num(2, 1, 2, 259))
	wantWritten(t, "texts", []byte("\x01\x00a\x00\x00\x02\x00bc"), text("a", "", "bc"))
	wantWritten(t, "raw bytes", []byte{0, 255, 7}, raw(0, 255, 7))
	wantWritten(t, "calls", []byte{2, 1, 1, 0, 97, 1, 0, 0, 0, 9, 7, 8, 255},
		num(2, 258), text("a"), block([]byte{9}), raw(7, 8), num(1, 255))
}

// P1.1: a text's bytes stand as they are, whatever they are.
func TestWriteTextOfAnyBytes(t *testing.T) {
	wantWritten(t, "bytes that are no letters", []byte("\x06\x00\x00\n\xff\xc3\xa9\x80"), text("\x00\n\xff\xc3\xa9\x80"))
}

// P1.1: Num fails with ErrArg for a size that is none of the four, even without numbers.
func TestWriteWrongSize(t *testing.T) {
	for _, size := range []int{0, 3, 5, 6, 7, 9, 16, 64, -1, -2, -8, math.MaxInt, math.MinInt} {
		wantRefused(t, "no number", api.ErrArg, num(size))
		wantRefused(t, "a number", api.ErrArg, num(size, 0))
		wantRefused(t, "a number that fits nowhere else", api.ErrArg, num(size, -1))
	}
}

// P1.1: Num fails with ErrCursorFits for a number that does not fit.
func TestWriteNumThatDoesNotFit(t *testing.T) {
	for _, c := range []struct{ size, n int }{
		{1, 256}, {1, 257}, {1, -1}, {1, -256}, {1, math.MaxInt}, {1, math.MinInt},
		{2, 65536}, {2, -1}, {2, -65536}, {2, math.MaxInt}, {2, math.MinInt},
		{4, 1 << 32}, {4, -1}, {4, -1 << 32}, {4, math.MaxInt}, {4, math.MinInt},
	} {
		wantRefused(t, "a number alone", api.ErrCursorFits, num(c.size, c.n))
		wantRefused(t, "a number behind one that fits", api.ErrCursorFits, num(c.size, 1, c.n))
		wantRefused(t, "a number ahead of one that fits", api.ErrCursorFits, num(c.size, c.n, 1))
	}
}

// P1.1: a text has at most 4096 bytes.
func TestWriteTextAtLimit(t *testing.T) {
	longest := strings.Repeat("x", 4096)
	wantWritten(t, "4096 bytes", []byte("\x00\x10"+longest), text(longest))
	wantRefused(t, "4097 bytes", api.ErrLong, text(longest+"x"))
	wantRefused(t, "65536 bytes", api.ErrLong, text(strings.Repeat("x", 65536)))
	wantRefused(t, "4097 bytes behind a short text", api.ErrLong, text("a", longest+"x"))
	wantRefused(t, "4097 bytes ahead of a short text", api.ErrLong, text(longest+"x", "a"))
}

// P1.1: a block has at most 2^20 bytes.
func TestWriteBlockAtLimit(t *testing.T) {
	longest := bytes.Repeat([]byte{5}, 1<<20)
	wantWritten(t, "2^20 bytes", append([]byte{0, 0, 16, 0}, longest...), block(longest))
	wantRefused(t, "2^20 + 1 bytes", api.ErrLong, block(append(longest, 5)))
}

// P1.1: raw bytes have no limit of their own.
func TestWriteRawWithoutLimit(t *testing.T) {
	many := bytes.Repeat([]byte{6}, 1<<20+1)
	wantWritten(t, "2^20 + 1 bytes", many, raw(many...))
}

// P1.1, P1.2: the first failure is the one that is told, and nothing is written after it.
func TestWriterKeepsFirstFailure(t *testing.T) {
	failures := []struct {
		want api.Errno
		step func(w *cursor.Writer)
	}{
		{api.ErrArg, num(3)},
		{api.ErrCursorFits, num(1, 256)},
		{api.ErrLong, text(strings.Repeat("x", 4097))},
		{api.ErrLong, block(make([]byte, 1<<20+1))},
	}
	for _, first := range failures {
		for _, later := range failures {
			wantRefused(t, "two failures", first.want, raw(1), first.step, later.step)
		}
		wantRefused(t, "a failure, and pieces that are permitted", first.want,
			num(1, 1), first.step, num(8, 2), text("a"), block([]byte{3}), raw(4))
	}
}

// P1.2: Bytes returns all bytes that were written so far, as often as it is called, and a later failure replaces them.
func TestBytesAgain(t *testing.T) {
	w := cursor.NewWriter()
	w.Raw(1, 2)
	for range 2 {
		if b, e := w.Bytes(); e != api.OK || !bytes.Equal(b, []byte{1, 2}) {
			t.Fatalf("two bytes: %v, %d", b, e)
		}
	}
	w.Raw(3)
	if b, e := w.Bytes(); e != api.OK || !bytes.Equal(b, []byte{1, 2, 3}) {
		t.Errorf("three bytes: %v, %d", b, e)
	}
	w.Num(0)
	for range 2 {
		if b, e := w.Bytes(); e != api.ErrArg || len(b) != 0 {
			t.Errorf("after a failure: %v, %d", b, e)
		}
	}
}

// P1.2 with W6: what Bytes returns shares no memory with the writer, nor with another result.
func TestBytesAreNew(t *testing.T) {
	w := cursor.NewWriter()
	w.Raw(1, 2, 3)
	one, _ := w.Bytes()
	two, _ := w.Bytes()
	one[0] = 9
	_ = append(one, 8)
	w.Raw(4)
	if all, _ := w.Bytes(); !bytes.Equal(all, []byte{1, 2, 3, 4}) {
		t.Errorf("the writer's bytes changed: %v", all)
	}
	if !bytes.Equal(two, []byte{1, 2, 3}) || !bytes.Equal(one[:3:3], []byte{9, 2, 3}) {
		t.Errorf("the results changed: %v, %v", one, two)
	}
}

// P1.1 with W6: a writer neither keeps nor changes its arguments.
func TestWriterLeavesArguments(t *testing.T) {
	room := []byte{1, 2, 3, 4, 5, 6}
	was := slices.Clone(room)
	w := cursor.NewWriter()
	w.Raw(room[:2]...)
	w.Raw(7)
	w.Block(room[:3])
	w.Raw(8)
	ns := []int{10, 11, 12}
	w.Num(1, ns[:2]...)
	ss := []string{"a", "b"}
	w.Text(ss[:1]...)
	if !bytes.Equal(room, was) || !slices.Equal(ns, []int{10, 11, 12}) || !slices.Equal(ss, []string{"a", "b"}) {
		t.Errorf("arguments changed: %v %v %v", room, ns, ss)
	}
	clear(room)
	clear(ns)
	clear(ss)
	want := []byte{1, 2, 7, 3, 0, 0, 0, 1, 2, 3, 8, 10, 11, 1, 0, 97}
	if b, e := w.Bytes(); e != api.OK || !bytes.Equal(b, want) {
		t.Errorf("the writer kept an argument: %v, %d", b, e)
	}
}

// W2: writers have nothing in common.
func TestWritersAreIndependent(t *testing.T) {
	one, two := cursor.NewWriter(), cursor.NewWriter()
	one.Raw(1)
	two.Num(3)
	if b, e := one.Bytes(); e != api.OK || !bytes.Equal(b, []byte{1}) {
		t.Errorf("the first writer: %v, %d", b, e)
	}
	if b, e := two.Bytes(); e != api.ErrArg || len(b) != 0 {
		t.Errorf("the second writer: %v, %d", b, e)
	}
}
