package space_test

import (
	"math"
	"slices"
	"strconv"
	"testing"

	"clevis/api"
	"clevis/space"
)

// access is one way of access to n bytes: it returns whether no result came, and the error.
type access struct {
	name   string
	n      int // 0 if any number may be asked for
	need   api.Perm
	writes bool
	call   func(s *space.Space, at, n int) (bool, api.Errno)
}

func accesses() []access {
	return []access{
		{"Read", 0, api.Read, false, func(s *space.Space, at, n int) (bool, api.Errno) {
			b, e := s.Read(at, n)
			return len(b) == 0, e
		}},
		{"Peek", 0, 0, false, func(s *space.Space, at, n int) (bool, api.Errno) {
			b, e := s.Peek(at, n)
			return len(b) == 0, e
		}},
		{"Fetch", 8, api.Exec, false, func(s *space.Space, at, _ int) (bool, api.Errno) {
			b, e := s.Fetch(at)
			return len(b) == 0, e
		}},
		{"Word", 8, api.Read, false, func(s *space.Space, at, _ int) (bool, api.Errno) {
			n, e := s.Word(at)
			return n == 0, e
		}},
		{"PeekWord", 8, 0, false, func(s *space.Space, at, _ int) (bool, api.Errno) {
			n, e := s.PeekWord(at)
			return n == 0, e
		}},
		{"Write", 0, api.Write, true, func(s *space.Space, at, n int) (bool, api.Errno) {
			return true, s.Write(at, slices.Repeat([]byte{255}, n)...)
		}},
		{"Poke", 0, 0, true, func(s *space.Space, at, n int) (bool, api.Errno) {
			return true, s.Poke(at, slices.Repeat([]byte{255}, n)...)
		}},
		{"SetWord", 8, api.Write, true, func(s *space.Space, at, _ int) (bool, api.Errno) {
			return true, s.SetWord(at, -1)
		}},
		{"PokeWord", 8, 0, true, func(s *space.Space, at, _ int) (bool, api.Errno) {
			return true, s.PokeWord(at, -1)
		}},
	}
}

// wantRefused makes one call that must return the error, and change nothing.
func wantRefused(t *testing.T, s *space.Space, a access, at, n int, want api.Errno) {
	t.Helper()
	before := shotOf(t, s)
	what := a.name + " of " + strconv.Itoa(n) + " bytes at " + strconv.Itoa(at)
	if none, e := a.call(s, at, n); !none || e != want {
		t.Errorf("%s: nothing %v, and %d; want true, and %d", what, none, e, want)
	}
	wantShot(t, what, s, before)
}

// P5.3: numbers of bytes that are not from 1 to MaxRegion, wherever it is.
func TestAccessWrongNumbers(t *testing.T) {
	s := filled(t, first, page, 7, 8192, page, 0)
	for _, a := range accesses() {
		if a.n != 0 {
			continue
		}
		for _, n := range wrongSizes() {
			if a.writes && (n < 0 || n > great+page) {
				continue
			}
			for _, at := range []int{first, first + page, 8192, 0, -1, math.MinInt, math.MaxInt} {
				wantRefused(t, s, a, at, n, api.ErrArg)
			}
		}
	}
}

// P5.3: ranges that begin in no region.
func TestAccessNoRegion(t *testing.T) {
	s := filled(t, first+page, page, 7, 8192, 2*page, 7, limit-page, page, 7)
	outside := []int{
		0, 8, first, first + page - 1, first + page - 8, first + 2*page, first + 2*page + 1, 8191, 8192 + 2*page, limit - page - 1, limit, limit + 8,
		-1, -8, -first, math.MinInt, math.MinInt + 8, math.MaxInt, math.MaxInt - 7, math.MaxInt - 63,
	}
	for _, a := range accesses() {
		for _, at := range outside {
			for _, n := range numbers(a, 1, 8, page, great) {
				wantRefused(t, s, a, at, n, api.ErrSpaceFree)
				wantRefused(t, space.New(), a, at, n, api.ErrSpaceFree)
			}
		}
	}
}

// numbers are those of the numbers that one may ask the access for.
func numbers(a access, ns ...int) []int {
	if a.n != 0 {
		return []int{a.n}
	}
	return ns
}

// P5.3: ranges that end just at their region's end, and such as are longer, also where another region follows at once.
func TestAccessRegionEnds(t *testing.T) {
	s := filled(t, first, 2*page, 7, first+2*page, page, 7, limit-page, page, 7)
	for _, a := range accesses() {
		for _, end := range []int{first + 2*page, first + 3*page, limit} {
			for _, n := range numbers(a, 2, 8, 33, page) {
				wantRefused(t, s, a, end-n+1, n, api.ErrSpaceFree)
				wantRefused(t, s, a, end-1, n, api.ErrSpaceFree)
				wantAllowed(t, s.Copy(), a, end-n, n)
			}
		}
		for _, n := range numbers(a, 1) {
			wantAllowed(t, s.Copy(), a, first+2*page-n, n)
			wantRefused(t, s, a, first+3*page, n, api.ErrSpaceFree)
			wantRefused(t, s, a, limit, n, api.ErrSpaceFree)
		}
		if a.n == 0 {
			wantAllowed(t, s.Copy(), a, first, 2*page)
			wantRefused(t, s, a, first, 2*page+1, api.ErrSpaceFree)
			wantRefused(t, s, a, first, 3*page, api.ErrSpaceFree)
			wantRefused(t, s, a, first, great, api.ErrSpaceFree)
		}
	}
}

// wantAllowed makes one call that must return OK, and what it reads.
func wantAllowed(t *testing.T, s *space.Space, a access, at, n int) {
	t.Helper()
	if none, e := a.call(s, at, n); none != a.writes || e != api.OK {
		t.Errorf("%s of %d bytes at %d: nothing %v, and %d; want %v, and OK", a.name, n, at, none, e, a.writes)
	}
}

// P5.3: each access needs its permission alone, or none at all.
func TestAccessPerms(t *testing.T) {
	for p := range 8 {
		for _, a := range accesses() {
			s := filled(t, first, page, p, 8192, page, 7-p)
			if api.Perm(p)&a.need != a.need {
				wantRefused(t, s, a, first+8, 8, api.ErrSpacePerm)
				wantRefused(t, s, a, first+57, 8, api.ErrSpaceFree)
				continue
			}
			wantAllowed(t, s, a, first+8, 8)
		}
	}
}

// P5.3, W4: a wrong number comes ahead of a range outside of regions, and that ahead of the permission.
func TestAccessOrder(t *testing.T) {
	s := filled(t, first, page, 0, first+page, page, 7)
	for _, a := range accesses() {
		if a.n == 0 {
			wantRefused(t, s, a, first, 0, api.ErrArg)
			wantRefused(t, s, a, first, great+1, api.ErrArg)
			wantRefused(t, s, a, first, page+1, api.ErrSpaceFree)
		}
		wantRefused(t, s, a, first+page-7, 8, api.ErrSpaceFree)
		if a.need != 0 {
			wantRefused(t, s, a, first+page-8, 8, api.ErrSpacePerm)
			wantRefused(t, s, a, first, 8, api.ErrSpacePerm)
		}
	}
}

// P5.3, P5.5: what Write and Poke store is what Read, Peek and Fetch return, and the bytes around it stay.
func TestReadWhatWasWritten(t *testing.T) {
	for _, n := range []int{1, 2, 7, 8, 9, 63, 64, 65, 200} {
		for _, from := range []int{0, 1, 56, 63, 64, 100, 256 - n} {
			if from+n > 256 {
				continue
			}
			s := filled(t, first, 256, 7)
			want := counted(first, 256)
			for i := range n {
				want[from+i] = byte(7 * i)
			}
			wantOK(t, "Write", s.Write(first+from, want[from:from+n]...))
			b, e := s.Read(first, 256)
			wantBytes(t, "Read", b, e, want, api.OK)
			b, e = s.Read(first+from, n)
			wantBytes(t, "Read of the piece", b, e, want[from:from+n], api.OK)
			wantOK(t, "Protect", s.Protect(first, 0))
			clear(want[from : from+n])
			wantOK(t, "Poke", s.Poke(first+from, make([]byte, n)...))
			b, e = s.Peek(first, 256)
			wantBytes(t, "Peek", b, e, want, api.OK)
			wantOK(t, "Protect", s.Protect(first, api.Exec))
			b, e = s.Fetch(first + min(from, 248))
			wantBytes(t, "Fetch", b, e, want[min(from, 248):][:8], api.OK)
		}
	}
}

// P5.3, P5.5: bytes that were not written are 0, ahead of and behind those that were.
func TestReadAroundWhatWasWritten(t *testing.T) {
	s := spaceOf(t, first, 256, 3, first+256, 64, 3)
	want := make([]byte, 256)
	for _, at := range []int{100, 20, 254, 0, 101} {
		want[at], want[at+1] = byte(at+1), 200
		wantOK(t, "Write", s.Write(first+at, byte(at+1), 200))
		b, e := s.Read(first, 256)
		wantBytes(t, "Read", b, e, want, api.OK)
		for from := range 254 {
			b, e := s.Read(first+from, 3)
			wantBytes(t, "Read of three", b, e, want[from:from+3], api.OK)
			b, e = s.Peek(first+from, 1)
			wantBytes(t, "Peek of one", b, e, want[from:from+1], api.OK)
		}
	}
	b, e := s.Read(first+256, 64)
	wantBytes(t, "the region behind it", b, e, make([]byte, 64), api.OK)
}

// P5.3: the greatest access there is.
func TestGreatestAccess(t *testing.T) {
	s := spaceOf(t, first, great, 3)
	all := counted(5, great)
	wantOK(t, "Write", s.Write(first, all...))
	b, e := s.Read(first, great)
	if e != api.OK || !slices.Equal(b, all) {
		t.Errorf("Read of %d bytes: %d", great, e)
	}
	wantErr(t, "Write of one more", s.Write(first, append(all, 1)...), api.ErrArg)
	if _, e := s.Read(first, great+1); e != api.ErrArg {
		t.Errorf("Read of one more: %d", e)
	}
	if _, e := s.Read(first+1, great); e != api.ErrSpaceFree {
		t.Errorf("Read behind the end: %d", e)
	}
}

// words are numbers with their bytes.
func words() []struct {
	n int
	b []byte
} {
	return []struct {
		n int
		b []byte
	}{
		{0, []byte{0, 0, 0, 0, 0, 0, 0, 0}},
		{1, []byte{1, 0, 0, 0, 0, 0, 0, 0}},
		{255, []byte{255, 0, 0, 0, 0, 0, 0, 0}},
		{256, []byte{0, 1, 0, 0, 0, 0, 0, 0}},
		{0x0807060504030201, []byte{1, 2, 3, 4, 5, 6, 7, 8}},
		{1 << 32, []byte{0, 0, 0, 0, 1, 0, 0, 0}},
		{math.MaxInt, []byte{255, 255, 255, 255, 255, 255, 255, 127}},
		{-1, []byte{255, 255, 255, 255, 255, 255, 255, 255}},
		{-2, []byte{254, 255, 255, 255, 255, 255, 255, 255}},
		{-256, []byte{0, 255, 255, 255, 255, 255, 255, 255}},
		{math.MinInt, []byte{0, 0, 0, 0, 0, 0, 0, 128}},
		{math.MinInt + 1, []byte{1, 0, 0, 0, 0, 0, 0, 128}},
	}
}

// P5.3: words are eight bytes, least significant first, negative and positive, wherever they begin.
func TestWords(t *testing.T) {
	for _, w := range words() {
		for _, at := range []int{first, first + 1, first + 8, first + 31, first + 56} {
			s := filled(t, first, page, 3)
			want := counted(first, page)
			copy(want[at-first:], w.b)
			wantOK(t, "SetWord", s.SetWord(at, w.n))
			b, e := s.Read(first, page)
			wantBytes(t, "SetWord", b, e, want, api.OK)
			n, e := s.Word(at)
			wantWord(t, "Word", n, e, w.n, api.OK)

			s = filled(t, first, page, 0)
			wantOK(t, "PokeWord", s.PokeWord(at, w.n))
			b, e = s.Peek(first, page)
			wantBytes(t, "PokeWord", b, e, want, api.OK)
			n, e = s.PeekWord(at)
			wantWord(t, "PeekWord", n, e, w.n, api.OK)
			n, e = s.Word(at)
			wantWord(t, "Word without the permission", n, e, 0, api.ErrSpacePerm)
		}
	}
}

// P5.3: a word of bytes that were stored one by one, and one of which the bytes were not written, or in part.
func TestWordsOfBytes(t *testing.T) {
	s := spaceOf(t, first, page, 3)
	n, e := s.Word(first + 50)
	wantWord(t, "Word of nothing", n, e, 0, api.OK)
	wantOK(t, "Write", s.Write(first+9, 1, 2, 3))
	n, e = s.Word(first + 8)
	wantWord(t, "Word", n, e, 0x03020100, api.OK)
	n, e = s.Word(first + 10)
	wantWord(t, "Word", n, e, 0x0302, api.OK)
	n, e = s.Word(first + 12)
	wantWord(t, "Word", n, e, 0, api.OK)
}

// P5.3, P5.4, W6: bytes that were handed in are neither changed nor kept, and those that are returned are the caller's own.
func TestBytesAreTheCallers(t *testing.T) {
	for _, write := range []func(s *space.Space, b ...byte) api.Errno{
		func(s *space.Space, b ...byte) api.Errno { return s.Write(first+3, b...) },
		func(s *space.Space, b ...byte) api.Errno { return s.Poke(first, b...) },
	} {
		s := spaceOf(t, first, page, 7)
		given := []byte{1, 2, 3, 77, 78, 79}
		wantOK(t, "write", write(s, given[:3]...))
		wantBytes(t, "given", given, api.OK, []byte{1, 2, 3, 77, 78, 79}, api.OK)
		before := shotOf(t, s)
		clear(given)
		wantShot(t, "after a change of what was given", s, before)
		wantOK(t, "write of another", write(s, 9, 9, 9, 9))
		wantBytes(t, "given, later", given, api.OK, make([]byte, 6), api.OK)
	}
	s := filled(t, first, page, 7)
	before := shotOf(t, s)
	for _, read := range []func() ([]byte, api.Errno){
		func() ([]byte, api.Errno) { return s.Read(first, page) },
		func() ([]byte, api.Errno) { return s.Peek(first+1, 5) },
		func() ([]byte, api.Errno) { return s.Fetch(first + 8) },
	} {
		b, _ := read()
		again, _ := read()
		clear(b[:cap(b)])
		wantShot(t, "after a change of what was returned", s, before)
		if slices.Contains(again, 0) {
			t.Errorf("two results share memory")
		}
	}
}
