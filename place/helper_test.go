package place_test

import (
	"cmp"
	"fmt"
	"math"
	"slices"
	"strings"
	"testing"

	"clevis/api"
	"clevis/image"
	"clevis/place"
	"clevis/space"
	"clevis/table"
)

const (
	first = 4096
	page  = 64
	limit = 1 << 32
	great = 1 << 20
)

// seg is a segment that may be read, with bytes and zeros behind them.
func seg(at, size int, bytes ...byte) api.Seg {
	return withPerm(1, at, size, bytes...)
}

func withPerm(p api.Perm, at, size int, bytes ...byte) api.Seg {
	return api.Seg{At: at, Size: size, Bytes: bytes, Perm: p}
}

// imageOf returns an image of these segments, which may be a valid one or not.
func imageOf(segs ...api.Seg) api.Image { return api.Image{Segs: segs} }

// valid returns a valid image of these segments.
func valid(t *testing.T, segs ...api.Seg) api.Image {
	t.Helper()
	im := imageOf(segs...)
	tab, e := table.Make()
	wantErr(t, "Make", e, api.OK)
	im.Table = tab
	wantErr(t, "May", image.May(im), api.OK)
	return im
}

// notValid returns an image whose segments are not valid.
func notValid(t *testing.T, segs ...api.Seg) api.Image {
	t.Helper()
	wantErr(t, "May", image.May(imageOf(segs...)), api.ErrImageSegs)
	return imageOf(segs...)
}

// example is the image of the chapter's example.
func example(t *testing.T) api.Image {
	t.Helper()
	return valid(t, seg(0, 10), seg(128, 1))
}

// textOf has the segments of an image within the bounds of a line of a report.
func textOf(im api.Image) string {
	var all []string
	for _, s := range im.Segs {
		all = append(all, fmt.Sprintf("%d+%d/%d(%d bytes)", s.At, s.Size, s.Perm, len(s.Bytes)))
	}
	text := "[" + strings.Join(all, " ") + "]"
	return text[:min(len(text), 400)]
}

// counted returns n bytes, none of which is 0; neighbours differ.
func counted(from, n int) []byte {
	b := make([]byte, n)
	for i := range b {
		b[i] = byte((from+i)%251 + 1)
	}
	return b
}

func wantErr(t *testing.T, what string, e, want api.Errno) {
	t.Helper()
	if e != want {
		t.Errorf("%s is %d, want %d", what, e, want)
	}
}

// spaceOf maps regions as threes of address, size and permission, with bytes of which none is 0.
func spaceOf(t *testing.T, threes ...int) *space.Space {
	t.Helper()
	m := space.New()
	for three := range slices.Chunk(threes, 3) {
		at, size := three[0], three[1]
		wantErr(t, "MapAt", m.MapAt(at, size, api.Perm(three[2])), api.OK)
		wantErr(t, "Poke", m.Poke(at, counted(at, size)...), api.OK)
	}
	return m
}

// fullBut returns a space in which all addresses are used but holes, as pairs of address and size, in increasing order. Its regions are too great for all of their bytes to be read.
func fullBut(t *testing.T, holes ...int) *space.Space {
	t.Helper()
	m := space.New()
	at := first
	fill := func(end int) {
		for at < end {
			size := min(great, end-at)
			wantErr(t, "MapAt", m.MapAt(at, size, 1), api.OK)
			at += size
		}
	}
	for hole := range slices.Chunk(holes, 2) {
		fill(hole[0])
		at += hole[1]
	}
	fill(limit)
	return m
}

// piece is a region and its bytes.
type piece struct {
	api.Region
	bytes []byte
}

// shot is all that can be seen of a space.
type shot []piece

func shotOf(t *testing.T, m *space.Space) shot {
	t.Helper()
	var all shot
	for _, r := range m.Regions() {
		b, e := m.Peek(r.At, r.Size)
		if len(b) != r.Size || e != api.OK {
			t.Fatalf("Peek of the region %v: %d bytes, %d", r, len(b), e)
		}
		all = append(all, piece{r, b})
	}
	return all
}

func regionsOf(all shot) []api.Region {
	var rs []api.Region
	for _, p := range all {
		rs = append(rs, p.Region)
	}
	return rs
}

func wantShot(t *testing.T, what string, m *space.Space, want shot) {
	t.Helper()
	got := shotOf(t, m)
	if !slices.Equal(regionsOf(got), regionsOf(want)) {
		t.Fatalf("%s: the regions are %v, want %v", what, regionsOf(got), regionsOf(want))
	}
	for i, p := range got {
		if !slices.Equal(p.bytes, want[i].bytes) {
			t.Fatalf("%s: the bytes of the region %v are %v, want %v", what, p.Region, p.bytes, want[i].bytes)
		}
	}
}

// wantRegions takes the regions as threes of address, size and permission.
func wantRegions(t *testing.T, what string, m *space.Space, threes ...int) {
	t.Helper()
	var want []api.Region
	for three := range slices.Chunk(threes, 3) {
		want = append(want, api.Region{At: three[0], Size: three[1], Perm: api.Perm(three[2])})
	}
	if got := m.Regions(); !slices.Equal(got, want) {
		t.Errorf("%s: the regions are %v, want %v", what, got, want)
	}
}

// behind returns what is there when the segments of an image have been mapped at base, besides what was there.
func behind(was shot, base int, segs ...api.Seg) shot {
	all := slices.Clone(was)
	for _, s := range segs {
		size := roundedUp(s.Size)
		bytes := append(slices.Clone(s.Bytes), make([]byte, size-len(s.Bytes))...)
		all = append(all, piece{api.Region{At: base + s.At, Size: size, Perm: s.Perm}, bytes})
	}
	slices.SortFunc(all, func(a, b piece) int { return cmp.Compare(a.At, b.At) })
	return all
}

func roundedUp(n int) int {
	for n%page != 0 {
		n++
	}
	return n
}

// wantMap asks for the base, and for all that is in the space then.
func wantMap(t *testing.T, m *space.Space, im api.Image, base int) {
	t.Helper()
	want := behind(shotOf(t, m), base, im.Segs...)
	if got, e := place.Map(m, im); got != base || e != api.OK {
		t.Fatalf("Map of %s is %d and %d, want %d and 0", textOf(im), got, e, base)
	}
	wantShot(t, "Map of "+textOf(im), m, want)
}

// wantNoMap asks for the error, and that the space is as it was.
func wantNoMap(t *testing.T, m *space.Space, im api.Image, want api.Errno) {
	t.Helper()
	was := shotOf(t, m)
	wantMapError(t, m, im, want)
	wantShot(t, "Map of "+textOf(im), m, was)
}

// wantMapError is wantNoMap for spaces with too many bytes.
func wantMapError(t *testing.T, m *space.Space, im api.Image, want api.Errno) {
	t.Helper()
	was := m.Regions()
	if got, e := place.Map(m, im); got != 0 || e != want {
		t.Errorf("Map of %s is %d and %d, want 0 and %d", textOf(im), got, e, want)
	}
	if got := m.Regions(); !slices.Equal(got, was) {
		t.Errorf("Map of %s: the regions are %v, were %v", textOf(im), got, was)
	}
}

// wantUnmap asks for the error, and that exactly the regions that begin at these addresses are gone.
func wantUnmap(t *testing.T, m *space.Space, base int, im api.Image, want api.Errno, gone ...int) {
	t.Helper()
	was := shotOf(t, m)
	rest := slices.DeleteFunc(slices.Clone(was), func(p piece) bool { return slices.Contains(gone, p.At) })
	if len(rest) != len(was)-len(gone) {
		t.Fatalf("%v are not regions of %v", gone, regionsOf(was))
	}
	if e := place.Unmap(m, base, im); e != want {
		t.Errorf("Unmap of %s at %d is %d, want %d", textOf(im), base, e, want)
	}
	wantShot(t, "Unmap of "+textOf(im), m, rest)
}

func wantExtent(t *testing.T, want int, im api.Image) {
	t.Helper()
	if got := place.Extent(im); got != want {
		t.Errorf("Extent of %s is %d, want %d", textOf(im), got, want)
	}
}

// extremes are numbers near the ends of what an int can be.
func extremes() []int {
	var all []int
	for n := range page + 2 {
		all = append(all, math.MaxInt-n, math.MinInt+n)
	}
	return all
}
