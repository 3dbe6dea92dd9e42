package place_test

import (
	"math"
	"math/big"
	"slices"
	"testing"

	"clevis/api"
	"clevis/place"
)

// P15.1: the example of the chapter.
func TestExtentOfTheExample(t *testing.T) {
	wantExtent(t, 192, example(t))
}

// P15.1: of one segment, whose size is rounded up.
func TestExtentOfOneSegment(t *testing.T) {
	for _, c := range []struct{ at, size, want int }{
		{0, 1, 64}, {0, 2, 64}, {0, 63, 64}, {0, 64, 64}, {0, 65, 128}, {0, 127, 128}, {0, 128, 128}, {0, 129, 192},
		{64, 1, 128}, {64, 64, 128}, {64, 65, 192}, {128, 1000, 1152}, {640, 1, 704},
		{0, 65536, 65536}, {0, 65535, 65536}, {0, 65473, 65536}, {0, 65472, 65472}, {65472, 1, 65536}, {65472, 64, 65536}, {32768, 32768, 65536},
	} {
		wantExtent(t, c.want, valid(t, seg(c.at, c.size)))
	}
}

// P15.1: of several segments, the greatest end counts, wherever it is, and whatever lies between.
func TestExtentOfSeveralSegments(t *testing.T) {
	wantExtent(t, 128, valid(t, seg(0, 64), seg(64, 64)))
	wantExtent(t, 192, valid(t, seg(0, 64), seg(64, 65)))
	wantExtent(t, 65536, valid(t, seg(0, 1), seg(65472, 1)))
	wantExtent(t, 704, valid(t, seg(64, 1), seg(192, 100), seg(512, 129)))
	wantExtent(t, 512, valid(t, seg(0, 1), seg(64, 1), seg(128, 1), seg(192, 1), seg(256, 1), seg(320, 1), seg(384, 1), seg(448, 1)))

	wantExtent(t, 256, notValid(t, seg(0, 200), seg(64, 1)))
	wantExtent(t, 256, notValid(t, seg(64, 1), seg(0, 200)))
	wantExtent(t, 576, notValid(t, seg(0, 1), seg(512, 1), seg(64, 1)))
	wantExtent(t, 576, notValid(t, seg(512, 1), seg(0, 1), seg(512, 1)))
	wantExtent(t, 640, notValid(t, seg(64, 500), seg(128, 512), seg(192, 384)))
}

// P15.1, W5: without segments it is 0.
func TestExtentWithoutSegments(t *testing.T) {
	wantExtent(t, 0, api.Image{})
	wantExtent(t, 0, imageOf([]api.Seg{}...))
	wantExtent(t, 0, api.Image{Name: "b", TlsSize: 100, Syms: []api.Symbol{{Name: "f", Value: 1000, Size: 1000}}})
}

// P15.1: the bytes and the permission of a segment do not count, nor does what else an image has.
func TestExtentOfPlacesAlone(t *testing.T) {
	for _, p := range []api.Perm{0, 1, 2, 4, 7, 8, -1} {
		for _, n := range []int{0, 1, 64, 65, 1000} {
			wantExtent(t, 192, imageOf(withPerm(p, 0, 10, counted(0, n)...), withPerm(p, 128, 64, counted(0, n)...)))
		}
	}
	im := example(t)
	im.Name, im.TlsSize, im.Init, im.Relocs = "b", 4096, []int{4096}, []api.Reloc{{At: 8192}}
	wantExtent(t, 192, im)
}

// P15.1: of segments that are not valid, too: the size alone is rounded, upwards, and the result is at least 0.
func TestExtentOfWrongSegments(t *testing.T) {
	for _, c := range []struct{ at, size, want int }{
		{1, 1, 65}, {63, 1, 127}, {65, 64, 129}, {10, 65, 138},
		{0, 0, 0}, {64, 0, 64}, {7, 0, 7}, {-64, 0, 0},
		{-64, 64, 0}, {-64, 65, 64}, {-64, 1, 0}, {-63, 1, 1}, {-1, 1, 63}, {-128, 64, 0}, {-1, 0, 0},
		{128, -1, 128}, {128, -63, 128}, {128, -64, 64}, {128, -65, 64}, {128, -127, 64}, {128, -128, 0}, {128, -129, 0}, {1000, -100, 936},
		{0, -1, 0}, {0, -64, 0}, {0, -1000, 0}, {-64, -64, 0},
		{0, 65537, 65600}, {65536, 1, 65600}, {65472, 65, 65600}, {0, great, great}, {0, great + 1, great + page}, {1 << 40, 1, 1<<40 + 64}, {0, 1 << 40, 1 << 40},
		{math.MaxInt - 127, 64, math.MaxInt - 63}, {math.MaxInt - 64, 64, math.MaxInt}, {0, math.MaxInt - 63, math.MaxInt - 63}, {63, math.MaxInt - 100, math.MaxInt},
		{math.MinInt + 64, math.MaxInt, 64}, {math.MaxInt, math.MinInt, 0}, {math.MaxInt, -64, math.MaxInt - 64}, {math.MaxInt, -1, math.MaxInt}, {math.MinInt, math.MinInt, 0}, {math.MinInt, -1, 0}, {math.MinInt, -64, 0}, {-1, math.MinInt, 0},
	} {
		wantExtent(t, c.want, notValid(t, seg(c.at, c.size)))
		wantExtent(t, max(c.want, 64), imageOf(seg(0, 1), seg(c.at, c.size)))
		wantExtent(t, max(c.want, 64), imageOf(seg(c.at, c.size), seg(0, 1)))
	}
}

// modelExtent is computed without a limit.
func modelExtent(im api.Image) *big.Int {
	extent := new(big.Int)
	for _, s := range im.Segs {
		end := big.NewInt(int64(s.Size))
		for new(big.Int).Mod(end, big.NewInt(page)).Sign() != 0 {
			end.Add(end, big.NewInt(1))
		}
		if end.Add(end, big.NewInt(int64(s.At))); end.Cmp(extent) > 0 {
			extent = end
		}
	}
	return extent
}

// compareExtent asks for the model's extent, and for no small one where an int cannot have it.
func compareExtent(t *testing.T, im api.Image) {
	t.Helper()
	want := modelExtent(im)
	if want.IsInt64() {
		wantExtent(t, int(want.Int64()), im)
	} else if got := place.Extent(im); got <= limit {
		t.Errorf("Extent of %s is %d", textOf(im), got)
	}
}

// P15.1: all pairs of places, near 0 and near the ends of what an int can be.
func TestExtentModel(t *testing.T) {
	var numbers []int
	for n := -page - 2; n <= page+2; n++ {
		numbers = append(numbers, n)
	}
	numbers = append(numbers, extremes()...)
	for _, at := range numbers {
		for _, size := range numbers {
			compareExtent(t, imageOf(seg(at, size)))
			compareExtent(t, imageOf(seg(size, 65), seg(at, size), seg(10, at)))
		}
	}
}

// P15.1, W7, W1: an extent that no int can have does not wrap around to one for which there is room.
func TestExtentBeyondInts(t *testing.T) {
	for _, c := range []struct{ at, size int }{
		{math.MaxInt, 1}, {math.MaxInt - 62, 1}, {math.MaxInt - 63, 65}, {1, math.MaxInt}, {0, math.MaxInt}, {0, math.MaxInt - 62}, {64, math.MaxInt - 63}, {math.MaxInt, math.MaxInt},
	} {
		for _, segs := range [][]api.Seg{{seg(c.at, c.size)}, {seg(0, 1), seg(c.at, c.size)}, {seg(c.at, c.size), seg(0, 1)}} {
			compareExtent(t, imageOf(segs...))
			wantNoMap(t, spaceOf(t, first, 128, 7), notValid(t, slices.Clone(segs)...), api.ErrArg)
		}
	}
}
