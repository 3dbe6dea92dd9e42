package place_test

import (
	"reflect"
	"slices"
	"testing"

	"clevis/api"
	"clevis/place"
	"clevis/space"
)

// withRoom returns the same elements in memory of their own, with room behind them in which others stand.
func withRoom[T any](list []T, behind ...T) []T {
	return append(slices.Clone(list), behind...)[:len(list)]
}

// roomy returns an image in memory of its own. Behind each list there are elements that would be seen if they were read.
func roomy(im api.Image) api.Image {
	var segs []api.Seg
	for _, s := range im.Segs {
		s.Bytes = withRoom(s.Bytes, 201, 202, 203)
		segs = append(segs, s)
	}
	im.Segs = withRoom(segs, seg(0, 64, 9), seg(2048, 64, 9))
	return im
}

// whole returns all that is in the memory of an image's segments, the room behind each list as well.
func whole(im api.Image) api.Image {
	var segs []api.Seg
	for _, s := range im.Segs[:cap(im.Segs)] {
		s.Bytes = slices.Clone(s.Bytes[:cap(s.Bytes)])
		segs = append(segs, s)
	}
	im.Segs = segs
	return im
}

// someImages are some that can be mapped, and others.
func someImages(t *testing.T) []api.Image {
	t.Helper()
	return []api.Image{
		example(t), threeSegs(t), valid(t, seg(64, 100, counted(0, 100)...)), valid(t, seg(0, 64, counted(0, 63)...), seg(64, 64, 1)),
		{}, notValid(t, seg(0, 1, 1), seg(0, 1, 2)), notValid(t, seg(0, 1, 1), withPerm(8, 64, 1, 1)), notValid(t, seg(64, 1, 1, 2), seg(0, 64, counted(0, 65)...)), notValid(t, seg(64, 1, 1), seg(0, 10, counted(0, 20)...)),
	}
}

// W6: an image stays as it was, with what is behind its lists, and nothing of that is read.
func TestImagesStay(t *testing.T) {
	for _, im := range someImages(t) {
		own := roomy(im)
		was := whole(own)
		wantExtent(t, place.Extent(im), own)
		m, other := spaceOf(t, first, 64, 7), spaceOf(t, first, 64, 7)
		want, wantError := place.Map(other, im)
		if base, e := place.Map(m, own); base != want || e != wantError {
			t.Errorf("Map of %s is %d and %d, want %d and %d", textOf(own), base, e, want, wantError)
		}
		wantShot(t, "Map of "+textOf(own), m, shotOf(t, other))
		wantErr(t, "Unmap of "+textOf(own), place.Unmap(m, first+64, own), place.Unmap(other, first+64, im))
		wantShot(t, "Unmap of "+textOf(own), m, shotOf(t, other))
		if !reflect.DeepEqual(whole(own), was) {
			t.Errorf("%s became %s", textOf(was), textOf(whole(own)))
		}
	}
}

// W6: the space does not share the bytes of the image: neither sees what is written to the other one.
func TestBytesAreNotShared(t *testing.T) {
	for _, size := range []int{8, 64, 65, 4096} {
		m := space.New()
		im := roomy(imageOf(withPerm(7, 0, size, counted(0, size)...), withPerm(7, 4096, 64, 1, 2, 3)))
		wantMap(t, m, im, first)
		was := shotOf(t, m)
		im.Segs[0].Bytes[0], im.Segs[1].Bytes[2] = 200, 200
		im.Segs[1].Bytes = append(im.Segs[1].Bytes, 77)
		im.Segs[0] = seg(0, 1)
		wantShot(t, "the image was changed", m, was)

		m = space.New()
		im = roomy(imageOf(withPerm(7, 0, size, counted(0, size)...)))
		wantMap(t, m, im, first)
		before := whole(im)
		wantErr(t, "Write", m.Write(first, 99, 98, 97), api.OK)
		wantErr(t, "Write", m.Write(first+roundedUp(size)-4, 1, 2, 3, 4), api.OK)
		if !reflect.DeepEqual(whole(im), before) {
			t.Errorf("the space was changed, and the image with it")
		}
	}
}

// W6: the same image, and segments that share their bytes, may be mapped several times: each has bytes of its own.
func TestSharedBytes(t *testing.T) {
	m := space.New()
	bytes := counted(0, 64)
	im := valid(t, withPerm(7, 0, 64, bytes...), withPerm(7, 64, 64, bytes[:32]...))
	wantMap(t, m, im, first)
	wantMap(t, m, im, first+128)
	wantErr(t, "Write", m.Write(first, 0, 0, 0, 0), api.OK)
	wantMap(t, m, im, first+256)
	for _, at := range []int{first + 64, first + 128, first + 192, first + 256} {
		if b, e := m.Read(at, 32); !slices.Equal(b, counted(0, 32)) || e != api.OK {
			t.Errorf("the bytes at %d are %v and %d", at, b, e)
		}
	}
}

// W2, W6: spaces know nothing of one another, nor of what was called between.
func TestCallsDependOnNothingElse(t *testing.T) {
	im := threeSegs(t)
	m, other := space.New(), space.New()
	for i := range 3 {
		wantMap(t, m, im, first+384*i)
		c := m.Copy()
		wantMap(t, other, im, first)
		wantNoMap(t, other, notValid(t, seg(0, 1), seg(0, 1)), api.ErrSpaceUsed)
		wantUnmap(t, other, first, im, api.OK, startsOf(first, im)...)
		wantUnmap(t, c, first, im, api.OK, startsOf(first, im)...)
		wantExtent(t, 384, im)
	}
	wantRegions(t, "another space", other)
}
