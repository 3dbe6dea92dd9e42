package space_test

import (
	"slices"
	"testing"

	"clevis/api"
	"clevis/space"
)

const (
	first = 4096
	page  = 64
	limit = 1 << 32
	great = 1 << 20
)

// wrongSizes are sizes that no region may have, nor an access.
func wrongSizes() []int {
	return []int{0, -1, -page, great + 1, great + page, limit, 1<<63 - 1, -1 << 63}
}

func wrongPerms() []api.Perm {
	return []api.Perm{-1, 8, 9, 16, 1 << 32, 1<<63 - 1, -1 << 63}
}

// shot is all that can be seen of a space.
type shot struct {
	regions []api.Region
	bytes   [][]byte
}

func shotOf(t *testing.T, s *space.Space) shot {
	t.Helper()
	got := shot{regions: s.Regions()}
	for _, r := range got.regions {
		b, e := s.Peek(r.At, r.Size)
		if len(b) != r.Size || e != api.OK {
			t.Fatalf("Peek of the region %v: %d bytes, %d", r, len(b), e)
		}
		got.bytes = append(got.bytes, b)
	}
	return got
}

func wantShot(t *testing.T, what string, s *space.Space, want shot) {
	t.Helper()
	got := shotOf(t, s)
	if !slices.Equal(got.regions, want.regions) {
		t.Fatalf("%s: the regions are %v, want %v", what, got.regions, want.regions)
	}
	for i, b := range got.bytes {
		if !slices.Equal(b, want.bytes[i]) {
			t.Fatalf("%s: the bytes of the region %v are not as they were", what, got.regions[i])
		}
	}
}

// wantRegions takes the regions as threes of address, size and permission.
func wantRegions(t *testing.T, what string, s *space.Space, want ...int) {
	t.Helper()
	var rs []api.Region
	for three := range slices.Chunk(want, 3) {
		rs = append(rs, api.Region{At: three[0], Size: three[1], Perm: api.Perm(three[2])})
	}
	if got := s.Regions(); !slices.Equal(got, rs) {
		t.Errorf("%s: the regions are %v, want %v", what, got, rs)
	}
}

func wantGap(t *testing.T, s *space.Space, size, want int, wantError api.Errno) {
	t.Helper()
	if at, e := s.Gap(size); at != want || e != wantError {
		t.Errorf("Gap(%d) is %d and %d, want %d and %d", size, at, e, want, wantError)
	}
}

func wantMap(t *testing.T, s *space.Space, size int, p api.Perm, want int, wantError api.Errno) {
	t.Helper()
	if at, e := s.Map(size, p); at != want || e != wantError {
		t.Errorf("Map(%d, %d) is %d and %d, want %d and %d", size, p, at, e, want, wantError)
	}
}

func wantMapAt(t *testing.T, s *space.Space, at, size int, p api.Perm, want api.Errno) {
	t.Helper()
	if e := s.MapAt(at, size, p); e != want {
		t.Errorf("MapAt(%d, %d, %d) is %d, want %d", at, size, p, e, want)
	}
}

// spaceOf maps regions as threes of address, size and permission.
func spaceOf(t *testing.T, threes ...int) *space.Space {
	t.Helper()
	s := space.New()
	for three := range slices.Chunk(threes, 3) {
		wantMapAt(t, s, three[0], three[1], api.Perm(three[2]), api.OK)
	}
	return s
}

// filled is spaceOf with bytes of which none is 0 and neighbours differ.
func filled(t *testing.T, threes ...int) *space.Space {
	t.Helper()
	s := spaceOf(t, threes...)
	for _, r := range s.Regions() {
		wantOK(t, "Poke", s.Poke(r.At, counted(r.At, r.Size)...))
	}
	return s
}

func counted(from, n int) []byte {
	b := make([]byte, n)
	for i := range b {
		b[i] = byte((from+i)%251 + 1)
	}
	return b
}

func wantOK(t *testing.T, what string, e api.Errno) {
	t.Helper()
	if e != api.OK {
		t.Errorf("%s is %d, want OK", what, e)
	}
}

func wantErr(t *testing.T, what string, e, want api.Errno) {
	t.Helper()
	if e != want {
		t.Errorf("%s is %d, want %d", what, e, want)
	}
}

func wantBytes(t *testing.T, what string, b []byte, e api.Errno, want []byte, wantError api.Errno) {
	t.Helper()
	if !slices.Equal(b, want) || e != wantError {
		t.Errorf("%s: %v and %d, want %v and %d", what, b, e, want, wantError)
	}
}

func wantWord(t *testing.T, what string, n int, e api.Errno, want int, wantError api.Errno) {
	t.Helper()
	if n != want || e != wantError {
		t.Errorf("%s: %d and %d, want %d and %d", what, n, e, want, wantError)
	}
}
