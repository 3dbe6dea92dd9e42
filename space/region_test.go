package space_test

import (
	"math"
	"slices"
	"testing"

	"clevis/api"
	"clevis/space"
)

// noStarts are addresses at which no region of the three begins.
func noStarts() []int {
	return []int{0, 1, -1, math.MinInt, math.MaxInt, first - page, first + 1, first + 8, first + page, first + 3*page, first + 192, 8191, 8193, 8256, limit - page - 1, limit - 1, limit, limit + page, 2 * limit}
}

func three(t *testing.T) *space.Space {
	t.Helper()
	return filled(t, first, 128, 1, 8192, 65, 2, limit-page, 1, 4)
}

// P5.2: Unmap removes the one region, with its bytes, and nothing else.
func TestUnmap(t *testing.T) {
	s := three(t)
	wantOK(t, "Unmap", s.Unmap(8192))
	wantRegions(t, "without the second", s, first, 128, 1, limit-page, page, 4)
	wantErr(t, "Unmap again", s.Unmap(8192), api.ErrSpaceFree)
	b, e := s.Peek(8192, 1)
	wantBytes(t, "what was unmapped", b, e, nil, api.ErrSpaceFree)
	b, e = s.Peek(first, 128)
	wantBytes(t, "the first", b, e, counted(first, 128), api.OK)
	b, e = s.Peek(limit-page, page)
	wantBytes(t, "the last", b, e, counted(limit-page, page), api.OK)
	wantOK(t, "Unmap", s.Unmap(limit-page))
	wantOK(t, "Unmap", s.Unmap(first))
	wantRegions(t, "without all", s)
	wantGap(t, s, great, first, api.OK)
}

// P5.2, W3: Unmap where no region begins, if only within one or behind its end.
func TestUnmapNone(t *testing.T) {
	s := three(t)
	before := shotOf(t, s)
	for _, at := range noStarts() {
		wantErr(t, "Unmap", s.Unmap(at), api.ErrSpaceFree)
	}
	wantShot(t, "Unmap of none", s, before)
	for _, at := range noStarts() {
		wantErr(t, "Unmap", space.New().Unmap(at), api.ErrSpaceFree)
	}
}

// P5.2: Protect changes the permission of the one region, and no byte.
func TestProtect(t *testing.T) {
	s := three(t)
	for p := range 8 {
		want := shotOf(t, s)
		want.regions[1].Perm = api.Perm(p)
		wantOK(t, "Protect", s.Protect(8192, api.Perm(p)))
		wantShot(t, "Protect", s, want)
		_, e := s.Read(8192, 1)
		wantErr(t, "Read", e, permError(api.Perm(p), api.Read))
		wantErr(t, "Write", s.Write(8192, 9), permError(api.Perm(p), api.Write))
		_, e = s.Fetch(8192)
		wantErr(t, "Fetch", e, permError(api.Perm(p), api.Exec))
	}
	wantOK(t, "Protect", s.Protect(first, 0))
	wantOK(t, "Protect", s.Protect(limit-page, 6))
	wantRegions(t, "all protected", s, first, 128, 0, 8192, 128, 7, limit-page, page, 6)
}

func permError(p, need api.Perm) api.Errno {
	if p&need == 0 {
		return api.ErrSpacePerm
	}
	return api.OK
}

// P5.2, W3, W4: Protect with a wrong permission, where a region begins and where none does, and with a right one where none does.
func TestProtectWrong(t *testing.T) {
	s := three(t)
	before := shotOf(t, s)
	for _, p := range wrongPerms() {
		wantErr(t, "Protect", s.Protect(8192, p), api.ErrArg)
		wantErr(t, "Protect of none", s.Protect(8256, p), api.ErrArg)
		wantErr(t, "Protect in a new space", space.New().Protect(first, p), api.ErrArg)
	}
	for _, at := range noStarts() {
		wantErr(t, "Protect", s.Protect(at, 7), api.ErrSpaceFree)
		wantErr(t, "Protect in a new space", space.New().Protect(at, 0), api.ErrSpaceFree)
	}
	wantShot(t, "wrong", s, before)
}

// P5.2: the order of the regions is that of their addresses, in whatever order they were mapped.
func TestRegionsSorted(t *testing.T) {
	s := spaceOf(t, 1<<20, 64, 1, 4160, 64, 2, limit-great, great, 3, 8192, 64, 4, first, 64, 5, 1<<31, 128, 6)
	wantRegions(t, "sorted", s, first, 64, 5, 4160, 64, 2, 8192, 64, 4, 1<<20, 64, 1, 1<<31, 128, 6, limit-great, great, 3)
	wantOK(t, "Unmap", s.Unmap(8192))
	wantMap(t, s, 1, 0, 4224, api.OK)
	wantRegions(t, "sorted", s, first, 64, 5, 4160, 64, 2, 4224, 64, 0, 1<<20, 64, 1, 1<<31, 128, 6, limit-great, great, 3)
}

// P5.2, P5.4, W6: whoever changes the regions that were returned does not change the space.
func TestRegionsAreNew(t *testing.T) {
	s := three(t)
	before := shotOf(t, s)
	rs := s.Regions()
	for i := range rs {
		rs[i] = api.Region{At: 1, Size: 2, Perm: 3}
	}
	rs = append(rs[:0], slices.Repeat([]api.Region{{At: 5}}, cap(rs))...)
	wantShot(t, "other regions written to", s, before)
	if again := s.Regions(); &again[0] == &rs[0] {
		t.Errorf("Regions returns the same memory twice")
	}
}
