package place_test

import (
	"math"
	"slices"
	"testing"

	"clevis/api"
	"clevis/place"
	"clevis/space"
)

// wrong is an image that cannot be mapped, and why.
type wrong struct {
	want api.Errno
	segs []api.Seg
}

// wantWrong asks for the error in a new space and in others, none of which changes.
func wantWrong(t *testing.T, cases ...wrong) {
	t.Helper()
	for _, c := range cases {
		im := notValid(t, c.segs...)
		for _, m := range []*space.Space{space.New(), spaceOf(t, first, 64, 7), spaceOf(t, first, 128, 1, 4352, 64, 2, 6144, 4096, 7), spaceOf(t, 4160, 64, 0)} {
			wantNoMap(t, m, im, c.want)
		}
	}
}

// P15.2: an image without segments, whatever else it has, in any space.
func TestMapWithoutSegments(t *testing.T) {
	for _, im := range []api.Image{{}, {Segs: []api.Seg{}}, {Name: "b", TlsSize: 8, Syms: []api.Symbol{{Name: "f"}}}} {
		wantNoMap(t, space.New(), im, api.ErrArg)
		wantNoMap(t, spaceOf(t, first, 64, 7, 8192, 64, 0), im, api.ErrArg)
		wantMapError(t, fullBut(t), im, api.ErrArg)
	}
}

// P15.2: segments that have an address in common, in any order of their addresses.
func TestMapOverlap(t *testing.T) {
	wantWrong(t,
		wrong{api.ErrSpaceUsed, []api.Seg{seg(0, 1, 1), seg(0, 1, 2)}},
		wrong{api.ErrSpaceUsed, []api.Seg{seg(64, 64, 1), seg(64, 64, 2)}},
		wrong{api.ErrSpaceUsed, []api.Seg{seg(0, 65, 1), seg(64, 1, 2)}},
		wrong{api.ErrSpaceUsed, []api.Seg{seg(0, 192, 1), seg(64, 64, 2)}},
		wrong{api.ErrSpaceUsed, []api.Seg{seg(64, 1, 1), seg(0, 65, 2)}},
		wrong{api.ErrSpaceUsed, []api.Seg{seg(64, 1, 1), seg(0, 192, 2)}},
		wrong{api.ErrSpaceUsed, []api.Seg{seg(0, 1, 1), seg(64, 1, 2), seg(0, 1, 3)}},
		wrong{api.ErrSpaceUsed, []api.Seg{seg(0, 1, 1), seg(128, 64, 2), seg(64, 65, 3)}},
		wrong{api.ErrSpaceUsed, []api.Seg{seg(256, 1, 1), seg(128, 1, 2), seg(0, 256, 3), seg(512, 1, 4)}},
	)
}

// P15.2: sizes of segments that no region may have. Where the extent is too great for a gap, the error is that of Gap, and the same.
func TestMapWrongSizes(t *testing.T) {
	sizes := append([]int{0, -1, -63, -64, -65, -1000, great + 1, great + 64, 1 << 32, 1 << 40}, extremes()...)
	for _, size := range sizes {
		wantWrong(t,
			wrong{api.ErrArg, []api.Seg{seg(0, size)}},
			wrong{api.ErrArg, []api.Seg{seg(128, size, 1)}},
			wrong{api.ErrArg, []api.Seg{seg(0, 64, 1), seg(64, size)}},
			wrong{api.ErrArg, []api.Seg{seg(64, size), seg(0, 1, 1), seg(512, 100, 2)}},
		)
	}
}

// P15.2: permissions that no region may have.
func TestMapWrongPerms(t *testing.T) {
	for _, p := range []api.Perm{-1, 8, 9, 15, 16, -8, 1 << 32, math.MaxInt, math.MinInt} {
		wantWrong(t,
			wrong{api.ErrArg, []api.Seg{withPerm(p, 0, 1)}},
			wrong{api.ErrArg, []api.Seg{withPerm(p, 0, 64, 1, 2)}},
			wrong{api.ErrArg, []api.Seg{seg(0, 1, 1), withPerm(p, 64, 1, 2)}},
			wrong{api.ErrArg, []api.Seg{withPerm(p, 64, 1, 2), seg(0, 1, 1)}},
			wrong{api.ErrArg, []api.Seg{seg(0, 1), seg(128, 1, 1), withPerm(p, 256, 100), seg(512, 1)}},
		)
	}
}

// P15.2: segments that do not begin at a page, or too far ahead of or behind the others.
func TestMapWrongStarts(t *testing.T) {
	for _, at := range append([]int{1, 8, 63, 65, 127, -1, -63, -65, -first, -8192, great, 1 << 32, -1 << 32, 1 << 40}, extremes()...) {
		wantWrong(t,
			wrong{api.ErrArg, []api.Seg{seg(at, 1, 1)}},
			wrong{api.ErrArg, []api.Seg{seg(at, 64, 1), seg(512, 1, 2)}},
			wrong{api.ErrArg, []api.Seg{seg(512, 1, 2), seg(at, 64, 1)}},
		)
	}
	wantNoMap(t, space.New(), notValid(t, seg(0, 1), seg(-64, 1)), api.ErrArg)
	wantNoMap(t, spaceOf(t, first, 64, 7), notValid(t, seg(0, 1), seg(-64, 1)), api.ErrSpaceUsed)
	wantNoMap(t, spaceOf(t, first, 128, 7), notValid(t, seg(0, 1), seg(-64, 1)), api.ErrSpaceUsed)
}

// P15.2: more bytes than the pages of a segment have room for. The region behind makes none.
func TestMapTooManyBytes(t *testing.T) {
	wantWrong(t,
		wrong{api.ErrSpaceFree, []api.Seg{seg(0, 1, counted(0, 65)...)}},
		wrong{api.ErrSpaceFree, []api.Seg{seg(0, 64, counted(0, 65)...)}},
		wrong{api.ErrSpaceFree, []api.Seg{seg(0, 65, counted(0, 129)...)}},
		wrong{api.ErrSpaceFree, []api.Seg{seg(64, 64, counted(0, 1000)...)}},
		wrong{api.ErrSpaceFree, []api.Seg{withPerm(0, 0, 64, counted(0, 65)...)}},
		wrong{api.ErrSpaceFree, []api.Seg{withPerm(7, 0, 64, counted(0, 65)...)}},
		wrong{api.ErrSpaceFree, []api.Seg{seg(0, 64, counted(0, 65)...), seg(64, 64)}},
		wrong{api.ErrSpaceFree, []api.Seg{seg(64, 64), seg(0, 64, counted(0, 65)...)}},
		wrong{api.ErrSpaceFree, []api.Seg{seg(64, 64, 1), seg(256, 1, 2), seg(0, 64, counted(0, 65)...), seg(128, 1, 3)}},
		wrong{api.ErrSpaceFree, []api.Seg{seg(0, 64, counted(0, great)...)}},
	)
	wantNoMap(t, space.New(), notValid(t, seg(0, 64, counted(0, great+1)...)), api.ErrArg)
	wantNoMap(t, space.New(), notValid(t, seg(0, great, counted(0, great+1)...)), api.ErrArg)
	wantNoMap(t, space.New(), notValid(t, seg(0, great-64, counted(0, great)...)), api.ErrSpaceFree)
}

// P15.2: a wrong segment anywhere among others that could be mapped: none of them is.
func TestMapCompletelyOrNotAtAll(t *testing.T) {
	others := []api.Seg{seg(0, 64, 1), withPerm(7, 128, 100, counted(0, 100)...), withPerm(0, 320, 1), seg(448, 200, 2)}
	for _, c := range []wrong{
		{api.ErrArg, []api.Seg{seg(1024, 0)}},
		{api.ErrArg, []api.Seg{seg(1024, -64, 1)}},
		{api.ErrArg, []api.Seg{seg(1025, 1)}},
		{api.ErrArg, []api.Seg{withPerm(8, 1024, 1)}},
		{api.ErrSpaceFree, []api.Seg{seg(1024, 1, counted(0, 65)...)}},
		{api.ErrSpaceFree, []api.Seg{seg(64, 64, counted(0, 65)...)}},
	} {
		for i := range len(others) + 1 {
			wantWrong(t, wrong{c.want, slices.Insert(slices.Clone(others), i, c.segs...)})
		}
	}
	for i := range others {
		wantWrong(t, wrong{api.ErrSpaceUsed, append(slices.Clone(others), others[i])})
		wantWrong(t, wrong{api.ErrSpaceUsed, append([]api.Seg{others[i]}, others...)})
	}
}

// P15.2: a segment that is wrong in several ways yields the error of MapAt, and the first one that is wrong counts.
func TestMapFirstError(t *testing.T) {
	many := counted(0, 65)
	wantWrong(t,
		wrong{api.ErrArg, []api.Seg{seg(0, 64), withPerm(8, 0, 64, many...)}},
		wrong{api.ErrSpaceUsed, []api.Seg{seg(0, 64), seg(0, 64, many...)}},
		wrong{api.ErrSpaceUsed, []api.Seg{seg(0, 64), seg(0, 64), seg(64, 64, many...)}},
		wrong{api.ErrSpaceUsed, []api.Seg{seg(0, 64), seg(0, 64), withPerm(8, 64, 64)}},
		wrong{api.ErrArg, []api.Seg{seg(0, 64), withPerm(8, 64, 64), seg(0, 64)}},
		wrong{api.ErrArg, []api.Seg{seg(0, 64), seg(65, 64), seg(128, 64, many...)}},
	)
}

// P15.2, W4: that there is no gap comes ahead of what is wrong with a segment.
func TestMapGapComesFirst(t *testing.T) {
	m := fullBut(t, 8192, 128)
	for _, segs := range [][]api.Seg{
		{seg(0, 1), seg(0, 1), seg(128, 1)}, {withPerm(8, 0, 129)}, {seg(128, 1, counted(0, 65)...)}, {seg(65, 64)}, {seg(0, 1), seg(1, 128)}, {seg(192, 0)},
	} {
		wantMapError(t, m, notValid(t, segs...), api.ErrFull)
	}
	for _, c := range []wrong{
		{api.ErrSpaceUsed, []api.Seg{seg(0, 1), seg(0, 1), seg(64, 1)}}, {api.ErrArg, []api.Seg{withPerm(8, 0, 128)}}, {api.ErrSpaceFree, []api.Seg{seg(64, 1, counted(0, 65)...)}}, {api.ErrArg, []api.Seg{seg(128, 0)}},
	} {
		wantMapError(t, m, notValid(t, c.segs...), c.want)
	}
}

// P15.2: images that are not valid, but whose segments can be mapped and their bytes stored.
func TestMapNotValidButPossible(t *testing.T) {
	many := make([]api.Seg, 0, 20)
	for i := range 20 {
		many = append(many, seg(64*(19-i), 1, byte(i)))
	}
	for _, segs := range [][]api.Seg{
		{seg(64, 1, 1), seg(0, 1, 2)},
		{seg(256, 100, 1), seg(0, 64, 2), seg(128, 128, 3)},
		{seg(0, 10, counted(0, 11)...)},
		{seg(0, 1, counted(0, 64)...), seg(64, 65, counted(0, 128)...)},
		{seg(0, 65537, 1)}, {seg(65536, 64, 1)}, {seg(0, great, 1)},
		many,
	} {
		im := notValid(t, segs...)
		wantMap(t, space.New(), im, first)
		m := spaceOf(t, first, 64, 7)
		wantMap(t, m, im, first+64)
		wantUnmap(t, m, first+64, im, api.OK, startsOf(first+64, im)...)
	}
	m := spaceOf(t, 4224, 64, 7)
	wantMap(t, m, notValid(t, seg(0, 192, 1), seg(-192, 64, 2)), 4288)
	wantRegions(t, "a segment ahead of the base", m, first, 64, 1, 4224, 64, 7, 4288, 192, 1)
	wantNoMap(t, m, notValid(t, seg(0, 192, 1), seg(-320, 64, 2), seg(0, 1)), api.ErrSpaceUsed)
}

func startsOf(base int, im api.Image) []int {
	var all []int
	for _, s := range im.Segs {
		all = append(all, base+s.At)
	}
	return all
}

// P15.2: what failed does not stand in the way of what follows.
func TestMapAfterErrors(t *testing.T) {
	m := space.New()
	for _, segs := range [][]api.Seg{nil, {seg(0, 1, 1), seg(0, 1)}, {seg(0, 64, 1), seg(128, 64, counted(0, 65)...)}, {seg(0, 1), withPerm(8, 64, 1)}} {
		if _, e := place.Map(m, imageOf(segs...)); e == api.OK {
			t.Errorf("Map of %s is OK", textOf(imageOf(segs...)))
		}
		wantRegions(t, "after an error", m)
	}
	wantMap(t, m, example(t), 4096)
	wantNoMap(t, m, notValid(t, seg(0, 1, 5), seg(0, 1)), api.ErrSpaceUsed)
	wantMap(t, m, example(t), 4288)
}
