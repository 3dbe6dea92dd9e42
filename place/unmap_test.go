package place_test

import (
	"math"
	"slices"
	"testing"

	"clevis/api"
	"clevis/place"
	"clevis/space"
)

// threeSegs is an image with gaps, whose regions are at its base, and 128 and 320 behind it.
func threeSegs(t *testing.T) api.Image {
	t.Helper()
	return valid(t, withPerm(5, 0, 64, 1), withPerm(3, 128, 100, 2), withPerm(1, 320, 1))
}

// P15.3: at its base, an image is removed, with all of its regions and with nothing else.
func TestUnmap(t *testing.T) {
	m := spaceOf(t, first, 64, 7, 4352, 64, 2, 8192, 128, 0)
	im := threeSegs(t)
	wantMap(t, m, im, 4416)
	wantErr(t, "MapAt", m.MapAt(4480, 64, 7), api.OK)
	wantErr(t, "MapAt", m.MapAt(4800, 64, 7), api.OK)
	wantUnmap(t, m, 4416, im, api.OK, 4416, 4544, 4736)
	wantRegions(t, "the others", m, first, 64, 7, 4352, 64, 2, 4480, 64, 7, 4800, 64, 7, 8192, 128, 0)
	wantUnmap(t, m, 4416, im, api.ErrSpaceFree)
}

// P15.3: one segment, and each permission.
func TestUnmapOneSegment(t *testing.T) {
	for p := range 8 {
		for _, at := range []int{0, 64, 1024} {
			m := space.New()
			im := valid(t, withPerm(api.Perm(p), at, 100, 1))
			wantMap(t, m, im, first)
			wantUnmap(t, m, first, im, api.OK, first+at)
		}
	}
}

// P15.3: among several images that are mapped, the base tells which one is removed.
func TestUnmapOneOfSeveral(t *testing.T) {
	m := space.New()
	im := threeSegs(t)
	for i := range 3 {
		wantMap(t, m, im, first+384*i)
	}
	wantUnmap(t, m, first+384, im, api.OK, first+384, first+512, first+704)
	wantUnmap(t, m, first+384, im, api.ErrSpaceFree)
	wantUnmap(t, m, first+768, im, api.OK, first+768, first+896, first+1088)
	wantMap(t, m, im, first+384)
	wantUnmap(t, m, first, im, api.OK, first, first+128, first+320)
	wantUnmap(t, m, first+384, im, api.OK, first+384, first+512, first+704)
	wantRegions(t, "all of them are gone", m)
}

// P15.3: at another address nothing begins, unless a region happens to: it is removed, whatever it is of.
func TestUnmapAtAnotherAddress(t *testing.T) {
	im := threeSegs(t)
	m := spaceOf(t, first, 64, 7)
	wantMap(t, m, im, 4160)
	for _, base := range append([]int{0, 1, first + 1, 4159, 4161, 4192, 4224, 4416, 8192, limit, -first, -4160}, extremes()...) {
		wantUnmap(t, m, base, im, api.ErrSpaceFree)
	}
	wantUnmap(t, m, 4160-192, im, api.ErrSpaceFree, first, 4288)
	wantRegions(t, "the others", m, 4160, 64, 5, 4480, 64, 1)
	wantUnmap(t, m, 4160+320, im, api.ErrSpaceFree, 4480)
	wantUnmap(t, m, 4160-320, im, api.ErrSpaceFree, 4160)
}

// P15.3: an image that was never mapped.
func TestUnmapOfNoMappedImage(t *testing.T) {
	for _, m := range []*space.Space{space.New(), spaceOf(t, 4160, 64, 7), spaceOf(t, 4160, 1000, 7, 6144, 64, 0)} {
		wantUnmap(t, m, first, threeSegs(t), api.ErrSpaceFree)
		wantUnmap(t, m, first, valid(t, seg(0, 1)), api.ErrSpaceFree)
		wantUnmap(t, m, first, valid(t, seg(128, 1)), api.ErrSpaceFree)
	}
}

// P15.3, W5: without segments nothing is removed, and there is no error.
func TestUnmapWithoutSegments(t *testing.T) {
	for _, im := range []api.Image{{}, {Segs: []api.Seg{}}, {Name: "b"}} {
		for _, base := range []int{first, 0, -1, 77, math.MaxInt, math.MinInt} {
			wantUnmap(t, spaceOf(t, first, 64, 7), base, im, api.OK)
			wantUnmap(t, space.New(), base, im, api.OK)
		}
	}
}

// P15.3: any of the segments may be missing: this is told, and the others are removed nevertheless.
func TestUnmapWhatIsLeft(t *testing.T) {
	im := threeSegs(t)
	starts := startsOf(first, im)
	for missing := range 1 << len(starts) {
		m := space.New()
		wantMap(t, m, im, first)
		want := api.OK
		var left []int
		for i, at := range starts {
			if missing>>i&1 == 0 {
				left = append(left, at)
				continue
			}
			wantErr(t, "Unmap", m.Unmap(at), api.OK)
			want = api.ErrSpaceFree
		}
		wantUnmap(t, m, first, im, want, left...)
		wantRegions(t, "nothing is left", m)
	}
}

// P15.3: a region that does not begin where a segment begins is not removed, even if the segment's addresses are in it.
func TestUnmapOfCoveredAddresses(t *testing.T) {
	m := spaceOf(t, first, 64, 7, first+64, 256, 7, first+384, 64, 7)
	wantUnmap(t, m, first, threeSegs(t), api.ErrSpaceFree, first)
	wantRegions(t, "the others", m, first+64, 256, 7, first+384, 64, 7)
}

// P15.3: the regions count, as they are now: not their sizes, permissions and bytes, nor those of the segments.
func TestUnmapByStartsAlone(t *testing.T) {
	m := spaceOf(t, first, 128, 7, first+128, 64, 0, first+320, 1024, 2)
	wantUnmap(t, m, first, threeSegs(t), api.OK, first, first+128, first+320)

	m = spaceOf(t, first, 64, 7, first+64, 64, 7)
	wantUnmap(t, m, first, notValid(t, withPerm(-1, 64, 0, counted(0, 100)...), seg(0, -5)), api.OK, first, first+64)
}

// P15.3: a segment that comes twice is not there any more the second time.
func TestUnmapTwiceTheSame(t *testing.T) {
	m := spaceOf(t, first, 64, 7, first+64, 64, 7)
	wantUnmap(t, m, first, notValid(t, seg(0, 64), seg(0, 64), seg(64, 64)), api.ErrSpaceFree, first, first+64)
}

// P15.3, W7, W1: base and At are added without a wrap: no region begins beyond all numbers.
func TestUnmapFarOff(t *testing.T) {
	m := spaceOf(t, first, 64, 7, 1<<31, 64, 7)
	for _, c := range []struct{ base, at int }{
		{math.MinInt + first, math.MinInt}, {math.MinInt, math.MinInt + first}, {math.MinInt + 1<<31, math.MinInt}, {math.MinInt, math.MinInt},
		{math.MaxInt, math.MaxInt}, {math.MaxInt, first}, {math.MaxInt, 1}, {math.MaxInt, first + 1}, {first + 2, math.MaxInt - 1}, {math.MinInt, -first},
	} {
		wantUnmap(t, m, c.base, imageOf(seg(c.at, 64)), api.ErrSpaceFree)
	}
	wantUnmap(t, m, math.MaxInt, imageOf(seg(first-math.MaxInt, 64)), api.OK, first)
	wantUnmap(t, m, math.MinInt+1<<31, imageOf(seg(math.MaxInt, 1), seg(math.MaxInt, 1)), api.ErrSpaceFree)
	wantUnmap(t, m, -(1 << 31), imageOf(seg(1<<32, 64)), api.OK, 1<<31)
}

// wantRoundTrip asks that Map and Unmap together change nothing.
func wantRoundTrip(t *testing.T, m *space.Space, im api.Image) {
	t.Helper()
	was := shotOf(t, m)
	base, e := place.Map(m, im)
	if e != api.OK {
		t.Fatalf("Map of %s is %d", textOf(im), e)
	}
	wantErr(t, "Unmap of "+textOf(im), place.Unmap(m, base, im), api.OK)
	wantShot(t, "Map and Unmap of "+textOf(im), m, was)
}

// P15.4: Map followed by Unmap leaves the space as it was: its regions, their permissions and bytes, and its gaps.
func TestMapAndUnmap(t *testing.T) {
	spaces := []*space.Space{
		space.New(), spaceOf(t, first, 64, 7), spaceOf(t, 4160, 64, 0), spaceOf(t, first, 128, 5, 4416, 64, 2, 4608, 1000, 7), spaceOf(t, 4288, 64, 1, 4416, 128, 1, 4544, 64, 1, limit-64, 64, 6),
	}
	images := []api.Image{
		example(t), threeSegs(t), valid(t, seg(0, 1)), valid(t, seg(64, 65536-64, 1)), valid(t, seg(0, 65536, counted(0, 65536)...)), valid(t, withPerm(0, 128, 64, counted(0, 64)...)),
		notValid(t, seg(64, 1, 1), seg(0, 1, 2)), notValid(t, seg(0, 10, counted(0, 64)...)), notValid(t, seg(0, great, 1)),
	}
	for _, m := range spaces {
		for _, im := range images {
			gaps := gapsOf(m)
			wantRoundTrip(t, m, im)
			wantRoundTrip(t, m, im)
			if got := gapsOf(m); !slices.Equal(got, gaps) {
				t.Errorf("the gaps are %v, were %v", got, gaps)
			}
		}
	}
}

// gapsOf returns where there is room for some sizes.
func gapsOf(m *space.Space) []int {
	var all []int
	for _, size := range []int{1, 65, 129, 193, 1000, 65536, great} {
		at, _ := m.Gap(size)
		all = append(all, at)
	}
	return all
}

// P15.4: images that are mapped in turn, and unmapped in any order.
func TestMapAndUnmapOfSeveral(t *testing.T) {
	images := []api.Image{example(t), threeSegs(t), valid(t, seg(64, 64, 9))}
	for _, order := range [][]int{{0, 1, 2}, {0, 2, 1}, {1, 0, 2}, {1, 2, 0}, {2, 0, 1}, {2, 1, 0}} {
		m := spaceOf(t, 4160, 64, 3, 8192, 64, 7)
		was := shotOf(t, m)
		var bases []int
		for _, im := range images {
			base, e := place.Map(m, im)
			wantErr(t, "Map", e, api.OK)
			bases = append(bases, base)
		}
		for _, i := range order {
			wantUnmap(t, m, bases[i], images[i], api.OK, startsOf(bases[i], images[i])...)
		}
		wantShot(t, "all of them are gone", m, was)
	}
}

// P15.3, P15.4: what was stored in the regions, and how they were protected, since they were mapped, does not keep them.
func TestUnmapAfterChanges(t *testing.T) {
	m := spaceOf(t, first, 64, 7)
	was := shotOf(t, m)
	im := threeSegs(t)
	wantMap(t, m, im, 4160)
	wantErr(t, "Poke", m.Poke(4288, counted(5, 128)...), api.OK)
	wantErr(t, "Protect", m.Protect(4160, 0), api.OK)
	wantErr(t, "Protect", m.Protect(4480, 7), api.OK)
	wantErr(t, "Unmap", place.Unmap(m, 4160, im), api.OK)
	wantShot(t, "after Unmap", m, was)
	wantMap(t, m, im, 4160)
}
