package image_test

import (
	"math"
	"strconv"
	"testing"

	"clevis/api"
)

// segmented is the smallest image with other segments.
func segmented(segs ...api.Seg) api.Image {
	im := smallest()
	im.Segs = segs
	return im
}

func wantSegs(t *testing.T, what string, isRight bool, segs ...api.Seg) {
	t.Helper()
	wantImage(t, what, segmented(segs...), worse(isRight, api.ErrImageSegs))
}

// P9.1: 1 to 8 segments.
func TestCountOfSegs(t *testing.T) {
	for _, n := range []int{0, 1, 2, 7, 8, 9, 10, 255, 256, 1024} {
		segs := make([]api.Seg, n)
		for i := range segs {
			segs[i] = api.Seg{At: 64 * i, Size: 1 + i%64}
		}
		wantSegs(t, strconv.Itoa(n)+" segments", 1 <= n && n <= 8, segs...)
	}
}

// P9.1: a segment begins at a multiple of 64, from 0 on.
func TestBeginOfSegs(t *testing.T) {
	for at, isRight := range map[int]bool{
		0: true, 64: true, 128: true, 4096: true, 65472: true, 1: false, 8: false, 63: false, 65: false, 65471: false,
		65535: false, 65536: false, 65600: false, 1 << 31: false, 1<<32 - 64: false, 1 << 32: false, 1 << 62: false,
		-1: false, -8: false, -64: false, -65536: false, math.MinInt: false, math.MinInt + 64: false, math.MaxInt: false, math.MaxInt - 63: false,
	} {
		what := "at " + strconv.Itoa(at)
		wantSegs(t, what, isRight, api.Seg{At: at, Size: 1})
		wantSegs(t, what+" behind another", isRight && at > 0, api.Seg{Size: 64}, api.Seg{At: at, Size: 1})
	}
}

// P9.1: a segment has at least one byte, and ends at 65536 at most.
func TestSizeOfSegs(t *testing.T) {
	for _, at := range []int{0, 64, 32768, 65408, 65472} {
		for _, size := range []int{1, 2, 63, 64, 65, 65535, 65536 - at, 65536 - at - 1} {
			wantSegs(t, "a size", at+size <= 65536, api.Seg{At: at, Size: size})
		}
		for _, size := range []int{0, -1, -64, 65536 - at + 1, 65536 - at + 64, 65537, 1 << 20, 1<<32 - at, 1 << 32, math.MinInt, math.MaxInt, math.MaxInt - at, math.MaxInt - at + 1} {
			wantSegs(t, "a size", false, api.Seg{At: at, Size: size})
		}
	}
	wantSegs(t, "no size of the last", false, api.Seg{Size: 1}, api.Seg{At: 64})
}

// P9.1: a segment begins at the end of the previous one, rounded up, or behind; never below.
func TestOrderOfSegs(t *testing.T) {
	for _, size := range []int{1, 63, 64, 65, 127, 128, 129, 1000} {
		for _, first := range []int{0, 64, 640} {
			end := (first + size + 63) / 64 * 64
			one := api.Seg{At: first, Size: size, Perm: 5}
			for at, isRight := range map[int]bool{end: true, end + 64: true, end + 128: true, end - 64: false, first: false, first - 64: false} {
				wantSegs(t, "two segments", isRight, one, api.Seg{At: at, Size: 1, Perm: 3})
				wantSegs(t, "two more", isRight, one, api.Seg{At: at, Size: 64, Perm: 3}, api.Seg{At: max(at, end) + 64, Size: 1})
			}
		}
	}
	wantSegs(t, "the third overlaps the first", false, api.Seg{Size: 128}, api.Seg{At: 128, Size: 1}, api.Seg{At: 64, Size: 1})
	wantSegs(t, "the third overlaps the second", false, api.Seg{Size: 1}, api.Seg{At: 64, Size: 65}, api.Seg{At: 128, Size: 1})
	wantSegs(t, "up to the last byte", true, api.Seg{Size: 65408}, api.Seg{At: 65408, Size: 1}, api.Seg{At: 65472, Size: 64})
	wantSegs(t, "behind the last byte", false, api.Seg{Size: 65536}, api.Seg{At: 65536, Size: 1})
}

// P9.1: a segment has no more bytes than its size.
func TestBytesOfSegs(t *testing.T) {
	for _, size := range []int{1, 63, 64, 65, 65536} {
		for _, n := range []int{0, 1, size - 1, size} {
			wantSegs(t, "bytes", true, api.Seg{Size: size, Bytes: make([]byte, n)})
		}
		for _, n := range []int{size + 1, size + 64, 2 * size, 1 << 20, 1<<20 + 1} {
			wantSegs(t, "bytes", n <= size, api.Seg{Size: size, Bytes: make([]byte, n)})
		}
	}
	wantSegs(t, "bytes of the last", false, api.Seg{Size: 64}, api.Seg{At: 64, Size: 1, Bytes: []byte{1, 2}})
}

// P9.1: permissions from 0 to 7.
func TestPermOfSegs(t *testing.T) {
	for _, perm := range []api.Perm{-1, -8, 0, 1, 2, 3, 4, 5, 6, 7, 8, 9, 15, 16, 255, 256, 1 << 32, math.MinInt, math.MaxInt} {
		isRight := 0 <= perm && perm <= 7
		wantSegs(t, "a permission", isRight, api.Seg{Size: 1, Perm: perm})
		wantSegs(t, "a permission of the last", isRight, api.Seg{Size: 1}, api.Seg{At: 64, Size: 1, Perm: perm})
	}
}

// P9.1: a thread-local block of 0 to 4096 bytes, and a template that is not longer.
func TestTls(t *testing.T) {
	for _, size := range []int{0, 1, 8, 4095, 4096, -1, 4097, 8192, 65535, 65536, math.MinInt, math.MaxInt} {
		for _, n := range []int{0, 1, 2, 8, 9, 4095, 4096, 4097, 1 << 20, 1<<20 + 1} {
			im := smallest()
			im.TlsSize = size
			im.Tls = make([]byte, n)
			wantImage(t, strconv.Itoa(n)+" bytes of "+strconv.Itoa(size), im, worse(0 <= size && size <= 4096 && n <= size, api.ErrImageTls))
		}
	}
}
