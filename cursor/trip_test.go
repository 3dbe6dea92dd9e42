package cursor_test

import (
	"bytes"
	"math"
	"strings"
	"testing"

	"clevis/api"
	"clevis/cursor"
)

// piece is one thing that is written and read: a number of size bytes, a text, a block or raw bytes.
type piece struct {
	kind  byte // n, t, b or r
	size  int
	n     int
	bytes []byte
}

func (p piece) write(w *cursor.Writer) {
	switch p.kind {
	case 'n':
		w.Num(p.size, p.n)
	case 't':
		w.Text(string(p.bytes))
	case 'b':
		w.Block(p.bytes)
	case 'r':
		w.Raw(p.bytes...)
	}
}

// read returns the piece of the form of p that stands there.
func (p piece) read(r *cursor.Reader) piece {
	got := piece{kind: p.kind, size: p.size}
	switch p.kind {
	case 'n':
		got.n = r.Num(p.size)
	case 't':
		got.bytes = []byte(r.Text())
	case 'b':
		got.bytes = r.Block()
	case 'r':
		got.bytes = r.Raw(len(p.bytes))
	}
	return got
}

func (p piece) same(q piece) bool {
	return p.kind == q.kind && p.size == q.size && p.n == q.n && bytes.Equal(p.bytes, q.bytes)
}

func writePieces(t *testing.T, ps []piece) []byte {
	t.Helper()
	w := cursor.NewWriter()
	for _, p := range ps {
		p.write(w)
	}
	b, e := w.Bytes()
	if e != api.OK {
		t.Fatalf("writing: %d", e)
	}
	return b
}

func edgePieces() []piece {
	ps := []piece{
		{kind: 't'}, {kind: 't', bytes: []byte("a")}, {kind: 't', bytes: []byte(strings.Repeat("\xff", 4096))},
		{kind: 'b'}, {kind: 'b', bytes: []byte{0}}, {kind: 'b', bytes: bytes.Repeat([]byte{3}, 1<<20)},
		{kind: 'r'}, {kind: 'r', bytes: []byte{0, 255}}, {kind: 'r', bytes: bytes.Repeat([]byte{4}, 5000)},
	}
	for _, n := range []int{0, 1, 127, 128, 255} {
		ps = append(ps, piece{kind: 'n', size: 1, n: n})
	}
	for _, n := range []int{0, 255, 256, 1<<15 - 1, 1 << 15, 1<<16 - 1} {
		ps = append(ps, piece{kind: 'n', size: 2, n: n})
	}
	for _, n := range []int{0, 1 << 16, 1<<31 - 1, 1 << 31, 1<<32 - 1} {
		ps = append(ps, piece{kind: 'n', size: 4, n: n})
	}
	for _, n := range []int{0, 1 << 32, -1, -256, math.MaxInt, math.MinInt} {
		ps = append(ps, piece{kind: 'n', size: 8, n: n})
	}
	return ps
}

// mixedPieces returns pieces of a rule without a pattern that a reader could be right for by chance.
func mixedPieces(seed uint32, count int) []piece {
	next := func(n int) int {
		seed = seed*1664525 + 1013904223
		return int(seed>>8) % n
	}
	var ps []piece
	for range count {
		some := make([]byte, next(20))
		for i := range some {
			some[i] = byte(next(256))
		}
		switch kind := "ntbr"[next(4)]; kind {
		case 'n':
			size := 1 << next(4)
			n := next(1<<24)<<40 ^ next(1<<24)<<20 ^ next(1<<24)
			if size < 8 {
				n &= 1<<(8*size) - 1
			}
			ps = append(ps, piece{kind: kind, size: size, n: n})
		default:
			ps = append(ps, piece{kind: kind, bytes: some})
		}
	}
	return ps
}

func wantTrip(t *testing.T, ps []piece) {
	t.Helper()
	b := writePieces(t, ps)
	r := cursor.NewReader(b)
	w := cursor.NewWriter()
	for i, p := range ps {
		got := p.read(r)
		if !got.same(p) {
			t.Fatalf("piece %d of kind %c, size %d: it is read otherwise than it was written", i, p.kind, p.size)
		}
		got.write(w)
	}
	if r.Left() != 0 || r.Fault() != api.OK || r.End() != api.OK {
		t.Errorf("at the end: left %d, fault %d, end %d", r.Left(), r.Fault(), r.End())
	}
	if again, e := w.Bytes(); e != api.OK || !bytes.Equal(again, b) {
		t.Errorf("writing again what was read: %d bytes, %d; they were %d bytes", len(again), e, len(b))
	}
}

// P1.5: what was written is read, piece by piece, and nothing remains; writing it again gives the same bytes.
func TestRoundTrip(t *testing.T) {
	wantTrip(t, nil)
	for _, p := range edgePieces() {
		wantTrip(t, []piece{p})
	}
	wantTrip(t, edgePieces())
	for seed := range uint32(50) {
		wantTrip(t, mixedPieces(seed, 40))
	}
}

// P1.5: bytes of any content that are read as pieces, are the same bytes when the pieces are written.
func TestRoundTripFromBytes(t *testing.T) {
	b := []byte("\x07\xff\xfe\x01\x02\x03\x04\x80\x90\xa0\xb0\xc0\xd0\xe0\xf0\x02\x00hi\x03\x00\x00\x00\x00\x01\x02tail")
	r := cursor.NewReader(b)
	w := cursor.NewWriter()
	for _, size := range []int{1, 2, 4, 8} {
		w.Num(size, r.Num(size))
	}
	w.Text(r.Text())
	w.Block(r.Block())
	w.Raw(r.Raw(r.Left())...)
	if e := r.End(); e != api.OK {
		t.Errorf("End: %d", e)
	}
	if got, e := w.Bytes(); e != api.OK || !bytes.Equal(got, b) {
		t.Errorf("got %v, %d; want %v", got, e, b)
	}
}
