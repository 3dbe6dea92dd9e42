package cursor_test

import (
	"bytes"
	"math"
	"slices"
	"strings"
	"testing"

	"clevis/api"
	"clevis/cursor"
)

// wantAt compares what a reader tells of itself.
func wantAt(t *testing.T, what string, r *cursor.Reader, left int, fault, end api.Errno) {
	t.Helper()
	if r.Left() != left || r.Fault() != fault || r.End() != end {
		t.Errorf("%s: left %d, fault %d, end %d; want %d, %d, %d", what, r.Left(), r.Fault(), r.End(), left, fault, end)
	}
}

// wantFailed makes one call of a new reader of b that must fail and read nothing, and then further calls.
func wantFailed(t *testing.T, what string, b []byte, want api.Errno, call func(r *cursor.Reader) bool) {
	t.Helper()
	r := cursor.NewReader(b)
	if !call(r) {
		t.Errorf("%s: a call that fails must return nothing", what)
	}
	wantAt(t, what, r, len(b), want, want)
	wantNothingMore(t, what, r)
	wantAt(t, what+", later", r, len(b), want, want)
}

// wantNothingMore makes calls of which each one, without a failure before it, would read or fail otherwise.
func wantNothingMore(t *testing.T, what string, r *cursor.Reader) {
	t.Helper()
	for _, size := range []int{1, 2, 4, 8, 3, -1} {
		if n := r.Num(size); n != 0 {
			t.Errorf("%s: Num(%d) returns %d after a failure", what, size, n)
		}
	}
	if s := r.Text(); s != "" {
		t.Errorf("%s: Text returns %q after a failure", what, s)
	}
	if b := r.Block(); len(b) != 0 {
		t.Errorf("%s: Block returns %v after a failure", what, b)
	}
	for _, n := range []int{0, 1, math.MaxInt, -1} {
		if b := r.Raw(n); len(b) != 0 {
			t.Errorf("%s: Raw(%d) returns %v after a failure", what, n, b)
		}
	}
}

func noNum(size int) func(r *cursor.Reader) bool {
	return func(r *cursor.Reader) bool { return r.Num(size) == 0 }
}

func noText(r *cursor.Reader) bool { return r.Text() == "" }

func noBlock(r *cursor.Reader) bool { return len(r.Block()) == 0 }

func noRaw(n int) func(r *cursor.Reader) bool {
	return func(r *cursor.Reader) bool { return len(r.Raw(n)) == 0 }
}

// P1.3, P1.4: a new reader is at the beginning, without a fault.
func TestNewReader(t *testing.T) {
	wantAt(t, "of nil", cursor.NewReader(nil), 0, api.OK, api.OK)
	wantAt(t, "of no bytes", cursor.NewReader([]byte{}), 0, api.OK, api.OK)
	wantAt(t, "of three bytes", cursor.NewReader([]byte{1, 2, 3}), 3, api.OK, api.ErrCursorRest)
}

// P1.3: numbers of each size, and a position that advances beyond them.
func TestReadNum(t *testing.T) {
	for _, c := range []struct {
		size int
		b    []byte
		want int
	}{
		{1, []byte{0}, 0},
		{1, []byte{128}, 128},
		{1, []byte{255}, 255},
		{2, []byte{2, 1}, 258},
		{2, []byte{255, 255}, 65535},
		{4, []byte{1, 2, 3, 4}, 0x04030201},
		{4, []byte{0, 0, 0, 128}, 1 << 31},
		{4, []byte{255, 255, 255, 255}, 1<<32 - 1},
		{8, []byte{1, 2, 3, 4, 5, 6, 7, 8}, 0x0807060504030201},
		{8, []byte{255, 255, 255, 255, 255, 255, 255, 127}, math.MaxInt},
		{8, []byte{254, 255, 255, 255, 255, 255, 255, 255}, -2},
		{8, []byte{0, 0, 0, 0, 0, 0, 0, 128}, math.MinInt},
	} {
		r := cursor.NewReader(append(slices.Clone(c.b), 77))
		if n := r.Num(c.size); n != c.want {
			t.Errorf("Num(%d) of %v: got %d, want %d", c.size, c.b, n, c.want)
		}
		wantAt(t, "behind a number", r, 1, api.OK, api.ErrCursorRest)
		if n := r.Num(1); n != 77 {
			t.Errorf("the byte behind it: %d", n)
		}
		wantAt(t, "at the end", r, 0, api.OK, api.OK)
	}
}

// P1.3: texts, blocks and raw bytes, and a position that advances beyond them.
func TestReadBytes(t *testing.T) {
	r := cursor.NewReader([]byte("\x02\x00a\xff\x00\x00\x03\x00\x00\x00xyz\x00\x00\x00\x00rs!"))
	if s := r.Text(); s != "a\xff" || r.Left() != 16 {
		t.Errorf("text: %q, %d", s, r.Left())
	}
	if s := r.Text(); s != "" || r.Left() != 14 {
		t.Errorf("empty text: %q, %d", s, r.Left())
	}
	if b := r.Block(); string(b) != "xyz" || r.Left() != 7 {
		t.Errorf("block: %q, %d", b, r.Left())
	}
	if b := r.Block(); len(b) != 0 || r.Left() != 3 {
		t.Errorf("empty block: %q, %d", b, r.Left())
	}
	if b := r.Raw(0); len(b) != 0 || r.Left() != 3 {
		t.Errorf("no raw bytes: %q, %d", b, r.Left())
	}
	if b := r.Raw(2); string(b) != "rs" || r.Left() != 1 {
		t.Errorf("raw bytes: %q, %d", b, r.Left())
	}
	if b := r.Raw(1); string(b) != "!" {
		t.Errorf("the last raw byte: %q", b)
	}
	if b := r.Raw(0); len(b) != 0 {
		t.Errorf("no raw bytes at the end: %q", b)
	}
	wantAt(t, "at the end", r, 0, api.OK, api.OK)
}

// P1.3: ErrArg comes ahead of ErrCursorShort.
func TestReadWrongArgument(t *testing.T) {
	full := make([]byte, 64)
	for _, size := range []int{0, 3, 5, 6, 7, 9, 16, -1, -8, math.MaxInt, math.MinInt} {
		wantFailed(t, "wrong size", full, api.ErrArg, noNum(size))
		wantFailed(t, "wrong size of nothing", nil, api.ErrArg, noNum(size))
	}
	for _, n := range []int{-1, -2, math.MinInt} {
		wantFailed(t, "negative count", full, api.ErrArg, noRaw(n))
		wantFailed(t, "negative count of nothing", nil, api.ErrArg, noRaw(n))
	}
}

// P1.3: ErrCursorShort, if fewer bytes remain than the number, the length or n requires.
func TestReadTooFew(t *testing.T) {
	one := []byte{1, 1, 1, 1, 1, 1, 1, 1}
	for _, size := range []int{1, 2, 4, 8} {
		for have := range size {
			wantFailed(t, "number", one[:have], api.ErrCursorShort, noNum(size))
		}
	}
	for have := range 2 {
		wantFailed(t, "length of a text", []byte{255, 255}[:have], api.ErrCursorShort, noText)
	}
	for have := range 4 {
		wantFailed(t, "length of a block", []byte{255, 255, 255, 255}[:have], api.ErrCursorShort, noBlock)
	}
	wantFailed(t, "raw", nil, api.ErrCursorShort, noRaw(1))
	wantFailed(t, "raw", one, api.ErrCursorShort, noRaw(9))
	wantFailed(t, "raw", one, api.ErrCursorShort, noRaw(math.MaxInt))
}

// P1.3: ErrCursorShort, if fewer bytes remain than the length of a text or a block tells.
func TestReadTooFewBehindLength(t *testing.T) {
	wantFailed(t, "text of 2", []byte{2, 0, 97}, api.ErrCursorShort, noText)
	wantFailed(t, "text of 1", []byte{1, 0}, api.ErrCursorShort, noText)
	wantFailed(t, "text of 4096", append([]byte{0, 16}, make([]byte, 4095)...), api.ErrCursorShort, noText)
	wantFailed(t, "block of 2", []byte{2, 0, 0, 0, 97}, api.ErrCursorShort, noBlock)
	wantFailed(t, "block of 1", []byte{1, 0, 0, 0}, api.ErrCursorShort, noBlock)
	wantFailed(t, "block of 2^20", append([]byte{0, 0, 16, 0}, make([]byte, 1<<20-1)...), api.ErrCursorShort, noBlock)
}

// P1.3: ErrLong, if the length tells more than is permitted, whether so many bytes are there or not.
func TestReadTooLong(t *testing.T) {
	wantFailed(t, "text of 4097, not there", []byte{1, 16}, api.ErrLong, noText)
	wantFailed(t, "text of 4097", append([]byte{1, 16}, make([]byte, 4097)...), api.ErrLong, noText)
	wantFailed(t, "text of 65535", append([]byte{255, 255}, make([]byte, 65535)...), api.ErrLong, noText)
	wantFailed(t, "block of 2^20 + 1, not there", []byte{1, 0, 16, 0}, api.ErrLong, noBlock)
	wantFailed(t, "block of 2^20 + 1", append([]byte{1, 0, 16, 0}, make([]byte, 1<<20+1)...), api.ErrLong, noBlock)
	wantFailed(t, "block of 2^32 - 1, not there", []byte{255, 255, 255, 255}, api.ErrLong, noBlock)
}

// P1.3: the longest text and the longest block are read; raw bytes have no limit of their own.
func TestReadLongest(t *testing.T) {
	longest := strings.Repeat("x", 4096)
	r := cursor.NewReader([]byte("\x00\x10" + longest + "!"))
	if s := r.Text(); s != longest {
		t.Errorf("text: %d bytes", len(s))
	}
	wantAt(t, "behind the longest text", r, 1, api.OK, api.ErrCursorRest)

	most := bytes.Repeat([]byte{5}, 1<<20)
	r = cursor.NewReader(append([]byte{0, 0, 16, 0}, append(most, 6)...))
	if b := r.Block(); !bytes.Equal(b, most) {
		t.Errorf("block: %d bytes", len(b))
	}
	wantAt(t, "behind the longest block", r, 1, api.OK, api.ErrCursorRest)

	r = cursor.NewReader(append(most, 6))
	if b := r.Raw(1<<20 + 1); !bytes.Equal(b, append(most, 6)) {
		t.Errorf("raw: %d bytes", len(b))
	}
	wantAt(t, "behind raw bytes", r, 0, api.OK, api.OK)
}

// P1.4: a call that fails leaves the position where the calls before it have brought it.
func TestFailureBehindPieces(t *testing.T) {
	b := []byte{9, 1, 0, 'a', 5, 0, 'b'}
	r := cursor.NewReader(b)
	if n, s := r.Num(1), r.Text(); n != 9 || s != "a" {
		t.Fatalf("the pieces ahead: %d, %q", n, s)
	}
	if s := r.Text(); s != "" {
		t.Errorf("a text that is short: %q", s)
	}
	wantAt(t, "at the failure", r, 3, api.ErrCursorShort, api.ErrCursorShort)
	wantNothingMore(t, "behind the failure", r)
	wantAt(t, "behind the failure", r, 3, api.ErrCursorShort, api.ErrCursorShort)
}

// P1.4: a failure with nothing left is told by End, too.
func TestFailureAtEnd(t *testing.T) {
	r := cursor.NewReader([]byte{1})
	r.Num(1)
	r.Num(3)
	wantAt(t, "wrong size at the end", r, 0, api.ErrArg, api.ErrArg)
	r.Raw(1)
	wantAt(t, "too few behind it", r, 0, api.ErrArg, api.ErrArg)
}

// P1.4: End with bytes left is no failure: reading goes on.
func TestEndIsNoFailure(t *testing.T) {
	r := cursor.NewReader([]byte{1, 2})
	if e := r.End(); e != api.ErrCursorRest {
		t.Errorf("End of two bytes: %d", e)
	}
	if a, b := r.Num(1), r.Num(1); a != 1 || b != 2 {
		t.Errorf("after End: %d, %d", a, b)
	}
	wantAt(t, "at the end", r, 0, api.OK, api.OK)
}

// P1.3 with W6: a reader keeps a copy of its bytes, and gives out copies.
func TestReaderSharesNothing(t *testing.T) {
	b := []byte{1, 2, 1, 0, 0, 0, 3, 4, 5}
	was := slices.Clone(b)
	r := cursor.NewReader(b[:8])
	raw := r.Raw(2)
	if string(raw) != "\x01\x02" {
		t.Fatalf("raw bytes: %v", raw)
	}
	_ = append(raw, 9) // would reach the length of the block, were it the reader's own memory
	block := r.Block()
	if string(block) != "\x03" || string(raw) != "\x01\x02" {
		t.Fatalf("block: %v, and raw bytes: %v", block, raw)
	}
	_ = append(block, 9)
	if !bytes.Equal(b, was) {
		t.Errorf("the argument changed: %v", b)
	}
	clear(b)
	if n := r.Num(1); n != 4 {
		t.Errorf("the last byte: %d", n)
	}
	wantAt(t, "at the end", r, 0, api.OK, api.OK)
}

// W2: readers of the same bytes have nothing in common.
func TestReadersAreIndependent(t *testing.T) {
	b := []byte{1, 2}
	one, two := cursor.NewReader(b), cursor.NewReader(b)
	one.Raw(-1)
	if n := two.Num(2); n != 513 {
		t.Errorf("the second reader: %d", n)
	}
	wantAt(t, "first", one, 2, api.ErrArg, api.ErrArg)
	wantAt(t, "second", two, 0, api.OK, api.OK)
}
