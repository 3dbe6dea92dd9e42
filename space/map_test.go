package space_test

import (
	"math"
	"slices"
	"testing"

	"clevis/api"
	"clevis/space"
)

// wrongStarts are addresses at which no region of 64 bytes may begin.
func wrongStarts() []int {
	return []int{
		0, page, first - page, first - 1, first + 1, first + page - 1, first + 8,
		-1, -page, -first, math.MinInt,
		limit, limit - 1, limit - page + 1, limit + page, 2 * limit, math.MaxInt, math.MaxInt - page + 1, math.MaxInt - 127, math.MaxInt - great + 1,
	}
}

// P5.1: a new space has no regions, and all of its addresses are free.
func TestNew(t *testing.T) {
	s := space.New()
	wantRegions(t, "new", s)
	wantGap(t, s, 1, first, api.OK)
	wantGap(t, s, great, first, api.OK)
	wantErr(t, "Unmap", s.Unmap(first), api.ErrSpaceFree)
	_, e := s.Peek(first, 1)
	wantErr(t, "Peek", e, api.ErrSpaceFree)
	other := space.New()
	wantMap(t, s, 1, 7, first, api.OK)
	wantRegions(t, "another one", other)
}

// P5.1: sizes are rounded up to a multiple of Page, and Map takes the addresses from the first one on.
func TestMapRounds(t *testing.T) {
	for _, c := range []struct{ size, rounded int }{
		{1, page}, {2, page}, {63, page}, {64, page}, {65, 128}, {127, 128}, {128, 128}, {129, 192},
		{1000, 1024}, {great - page, great - page}, {great - 63, great}, {great - 1, great}, {great, great},
	} {
		s := space.New()
		wantMap(t, s, c.size, 3, first, api.OK)
		wantRegions(t, "Map", s, first, c.rounded, 3)
		wantMap(t, s, 1, 5, first+c.rounded, api.OK)
		wantRegions(t, "Map behind it", s, first, c.rounded, 3, first+c.rounded, page, 5)
		s = space.New()
		wantMapAt(t, s, 8192, c.size, 0, api.OK)
		wantRegions(t, "MapAt", s, 8192, c.rounded, 0)
	}
}

// P5.1: every permission from 0 to 7 is permitted, and no other.
func TestMapPerms(t *testing.T) {
	s := space.New()
	var want []int
	for p := range 8 {
		wantMap(t, s, 1, api.Perm(p), first+2*p*page, api.OK)
		wantMapAt(t, s, first+(2*p+1)*page, page, api.Perm(p), api.OK)
		want = append(want, first+2*p*page, page, p, first+(2*p+1)*page, page, p)
	}
	wantRegions(t, "all permissions", s, want...)
	for _, p := range wrongPerms() {
		wantMap(t, s, 1, p, 0, api.ErrArg)
		wantMapAt(t, s, 1<<20, 1, p, api.ErrArg)
	}
	wantRegions(t, "wrong permissions", s, want...)
}

// P5.1, W3: with a size that is not permitted nothing is returned, and nothing is mapped.
func TestMapWrongSizes(t *testing.T) {
	s := filled(t, first, page, 7)
	before := shotOf(t, s)
	for _, size := range wrongSizes() {
		wantGap(t, s, size, 0, api.ErrArg)
		wantMap(t, s, size, 3, 0, api.ErrArg)
		wantMapAt(t, s, 8192, size, 3, api.ErrArg)
		wantMapAt(t, s, first, size, 3, api.ErrArg)
	}
	wantShot(t, "wrong sizes", s, before)
}

// P5.1: the smallest gap that is great enough is taken: ahead of, between and behind regions.
func TestGaps(t *testing.T) {
	s := spaceOf(t, 4288, 64, 1, 4416, 128, 1, 4544, 64, 1, 4736, 1, 1)
	for _, c := range []struct{ size, want int }{
		{1, first}, {192, first}, {193, 4800}, {great, 4800},
	} {
		wantGap(t, s, c.size, c.want, api.OK)
	}
	wantMap(t, s, 130, 2, first, api.OK)
	wantGap(t, s, 64, 4352, api.OK)
	wantGap(t, s, 65, 4608, api.OK)
	wantGap(t, s, 128, 4608, api.OK)
	wantGap(t, s, 129, 4800, api.OK)
	wantMap(t, s, 64, 4, 4352, api.OK)
	wantMap(t, s, 64, 0, 4608, api.OK)
	wantMap(t, s, 64, 0, 4672, api.OK)
	wantMap(t, s, 64, 0, 4800, api.OK)
	wantRegions(t, "gaps filled", s,
		first, 192, 2, 4288, 64, 1, 4352, 64, 4, 4416, 128, 1, 4544, 64, 1, 4608, 64, 0, 4672, 64, 0, 4736, 64, 1, 4800, 64, 0)
}

// P5.1: the gap behind the last region ends at MaxAddr.
func TestGapAtTheEnd(t *testing.T) {
	s := everyMegabyte(t)
	wantGap(t, s, great-page, first+page, api.OK)
	before := shotOf(t, s)
	for _, size := range []int{great - page + 1, great} {
		wantGap(t, s, size, 0, api.ErrFull)
		wantMap(t, s, size, 3, 0, api.ErrFull)
	}
	wantMap(t, s, great, 8, 0, api.ErrArg)
	wantShot(t, "no room", s, before)

	last := limit - great + first
	wantMapAt(t, s, last+page, 1, 1, api.OK)
	wantOK(t, "Unmap", s.Unmap(last))
	wantGap(t, s, great, last-great+page, api.OK)
	wantMapAt(t, s, last, page, 1, api.OK)
	wantGap(t, s, great, 0, api.ErrFull)
}

// P5.1: a gap that ends just at MaxAddr is one, and one byte more is not.
func TestGapUpToMaxAddr(t *testing.T) {
	s := everyMegabyte(t)
	at := first + page
	for range limit/great - 1 {
		wantMapAt(t, s, at, great-page, 0, api.OK)
		at += great
	}
	wantGap(t, s, great-first-page, at, api.OK)
	wantGap(t, s, great-first-page+1, 0, api.ErrFull)
	wantMap(t, s, great-first-2*page, 0, at, api.OK)
	wantGap(t, s, page+1, 0, api.ErrFull)
	wantMap(t, s, 1, 7, limit-page, api.OK)
	wantGap(t, s, 1, 0, api.ErrFull)
	wantMap(t, s, 1, 7, 0, api.ErrFull)
	wantOK(t, "SetWord", s.SetWord(limit-8, -5))
	n, e := s.Word(limit - 8)
	wantWord(t, "the last word", n, e, -5, api.OK)
}

// everyMegabyte has a region of one page in every 2^20 addresses, from FirstAddr on, so that none of the gaps has 2^20 bytes.
func everyMegabyte(t *testing.T) *space.Space {
	t.Helper()
	s := space.New()
	for at := first; at < limit; at += great {
		wantMapAt(t, s, at, 1, 1, api.OK)
	}
	return s
}

// P5.1, W1: a space that is full of the greatest regions.
func TestGreatestRegions(t *testing.T) {
	s := space.New()
	count := 0
	for {
		at, e := s.Map(great, 3)
		if e != api.OK {
			wantWord(t, "Map", at, e, 0, api.ErrFull)
			break
		}
		if at != first+count*great {
			t.Fatalf("region %d is at %d", count, at)
		}
		count++
	}
	if count != limit/great-1 {
		t.Errorf("%d regions", count)
	}
	wantGap(t, s, great-first, limit-great+first, api.OK)
}

// P5.1: what MapAt accepts, at the edges.
func TestMapAtEdges(t *testing.T) {
	for _, c := range []struct{ at, size int }{
		{first, 1}, {first, great}, {first + page, 1}, {1 << 31, 100},
		{limit - page, 1}, {limit - page, page}, {limit - 128, 65}, {limit - great, great}, {limit - great, great - 63},
	} {
		s := space.New()
		wantMapAt(t, s, c.at, c.size, 6, api.OK)
		wantRegions(t, "MapAt", s, c.at, (c.size+63)/64*64, 6)
	}
}

// P5.1, W3: what MapAt does not accept.
func TestMapAtWrong(t *testing.T) {
	s := filled(t, first, page, 7, limit-page, page, 7)
	before := shotOf(t, s)
	for _, at := range wrongStarts() {
		wantMapAt(t, s, at, 1, 3, api.ErrArg)
		wantMapAt(t, s, at, page, 3, api.ErrArg)
	}
	for _, c := range []struct{ at, size int }{
		{limit - page, page + 1}, {limit - page, great}, {limit - 128, 129}, {limit - great + page, great}, {limit - great + page, great - 63},
		{math.MaxInt - 63, page}, {math.MaxInt - 63, great}, {math.MaxInt - great + 1, great}, {math.MinInt, great}, {-great, great},
	} {
		wantMapAt(t, s, c.at, c.size, 3, api.ErrArg)
	}
	wantShot(t, "wrong addresses", s, before)
}

// P5.1: regions that touch have no address in common; such as do are refused, and nothing changes.
func TestMapAtUsed(t *testing.T) {
	s := filled(t, 8192, 192, 7, 8512, 64, 5)
	before := shotOf(t, s)
	for _, c := range []struct{ at, size int }{
		{8192, 1}, {8192, 192}, {8192, 193}, {8192, great}, {8256, 64}, {8320, 1}, {8320, 65}, {8320, 300},
		{8128, 65}, {8128, 1000}, {8128, great}, {first, 4097}, {first, great}, {8384, 129}, {8448, 65}, {8448, 1000}, {8512, 1}, {8512, 65},
	} {
		wantMapAt(t, s, c.at, c.size, 3, api.ErrSpaceUsed)
	}
	wantShot(t, "used addresses", s, before)
	wantMapAt(t, s, first, 4096, 1, api.OK)
	wantMapAt(t, s, 8384, 128, 2, api.OK)
	wantMapAt(t, s, 8576, 1, 3, api.OK)
	wantRegions(t, "regions that touch", s, first, 4096, 1, 8192, 192, 7, 8384, 128, 2, 8512, 64, 5, 8576, 64, 3)
}

// P5.1, W4: wrong arguments come ahead of addresses that are used, or room that is missing.
func TestMapAtOrder(t *testing.T) {
	s := spaceOf(t, first, page, 7)
	wantMapAt(t, s, first, 0, 3, api.ErrArg)
	wantMapAt(t, s, first, page, 8, api.ErrArg)
	wantMapAt(t, s, first, page, -1, api.ErrArg)
	wantMapAt(t, s, first+1, page, 3, api.ErrArg)
	wantMapAt(t, s, first+8, great, 3, api.ErrArg)
	wantMapAt(t, s, first-page, 2*page, 3, api.ErrArg)
	s = spaceOf(t, limit-128, page, 7)
	wantMapAt(t, s, limit-128, 129, 3, api.ErrArg)
	wantMapAt(t, s, limit-128, 128, 3, api.ErrSpaceUsed)
}

// P5.1, P5.5: all bytes of a new region are 0, also where another region was before.
func TestNewBytes(t *testing.T) {
	s := filled(t, first, 256, 7)
	wantOK(t, "Unmap", s.Unmap(first))
	wantMap(t, s, 64, 7, first, api.OK)
	wantMapAt(t, s, first+64, 192, 7, api.OK)
	for _, r := range s.Regions() {
		b, e := s.Read(r.At, r.Size)
		wantBytes(t, "a new region", b, e, make([]byte, r.Size), api.OK)
	}
	s = space.New()
	wantMap(t, s, great, 1, first, api.OK)
	if b, e := s.Read(first, great); e != api.OK || len(b) != great || slices.Max(b) != 0 {
		t.Errorf("the greatest region: %d bytes, %d", len(b), e)
	}
}

// P5.1, P5.2, P5.3: the examples of the chapter.
func TestExamples(t *testing.T) {
	s := space.New()
	wantMap(t, s, 1, 3, 4096, api.OK)
	wantMap(t, s, 65, 1, 4160, api.OK)
	n, e := s.Word(4160 + 121)
	wantWord(t, "Word behind the end", n, e, 0, api.ErrSpaceFree)
	n, e = s.Word(4160 + 120)
	wantWord(t, "Word at the end", n, e, 0, api.OK)
	wantErr(t, "SetWord", s.SetWord(4160, 1), api.ErrSpacePerm)
	wantOK(t, "PokeWord", s.PokeWord(4160, 1))
	wantOK(t, "Unmap", s.Unmap(4096))
	wantGap(t, s, 64, 4096, api.OK)
	wantGap(t, s, 65, 4288, api.OK)
}
