package scope_test

import (
	"math"
	"slices"
	"testing"

	"clevis/api"
	"clevis/table"
)

// wantWrong asserts that a table is one that is not valid for its image, so that the test is of what it says.
func wantWrong(t *testing.T, im api.Image) {
	t.Helper()
	if e := table.Right(im.Table, im.Syms...); e != api.ErrTable {
		t.Fatalf("the table is valid: %d of %s", e, textOf([]api.Image{im}))
	}
}

// P14.1 and P14.2: Look asks the tables alone, and Linear the symbols alone.
func TestImagesWithoutTables(t *testing.T) {
	none := bare("g", "f")
	wantWrong(t, none)
	wantLook(t, ref("f"), -1, nothing(), []int{0, 0}, none, none)
	wantLook(t, ref("f"), -1, at(1, 0), []int{0, 1}, none, image("f"))
	wantLinear(t, ref("f"), -1, at(0, 1), none, none)
	wantLinear(t, ref("f"), -1, at(0, 1), none, image("f"))
	wantLinear(t, ref("f"), 0, at(1, 1), none, none)
	wantLinear(t, ref("f"), -1, nothing(), image("g"), bare("f hidden", "f ref"))
}

// oneBucket is a table of one bucket, with a filter that lacks nothing.
func oneBucket(indices ...int) api.Table {
	return api.Table{Buckets: [][]int{indices}, Filter: full()}
}

// P14.1: a bucket's order decides, and what it does not have is not found; Linear goes by the order of the symbols.
func TestLookByWrongBuckets(t *testing.T) {
	im := image("f", "g", "f", "f hidden")
	for _, c := range []struct {
		indices       []int
		sym, examined int
	}{
		{nil, -1, 0},
		{[]int{2, 0}, 2, 1},
		{[]int{1, 2, 0}, 2, 2},
		{[]int{1}, -1, 1},
		{[]int{3, 1}, -1, 2},
		{[]int{-1, 4, 1 << 32, math.MinInt, 2}, 2, 1},
		{[]int{4, -1, math.MaxInt}, -1, 0},
		{[]int{1, 1, 1, 0}, 0, 4},
	} {
		wrong := withTable(im, oneBucket(c.indices...))
		wantWrong(t, wrong)
		wantLinear(t, ref("f"), -1, at(1, 0), image("g"), wrong, image("f"))
		if c.sym >= 0 {
			wantLook(t, ref("f"), -1, at(1, c.sym), []int{0, c.examined, 0}, image("g"), wrong, image("f"))
		} else {
			wantLook(t, ref("f"), -1, at(2, 0), []int{0, c.examined, 1}, image("g"), wrong, image("f"))
		}
	}
}

// P14.1: a filter that lacks a name hides it from Look; one that is not valid lacks nothing.
func TestLookByWrongFilters(t *testing.T) {
	im := image("g", "f")
	for _, filter := range []api.Filter{{Words: []uint64{0}, Shift: 6}, {Words: make([]uint64, 64), Shift: 31}} {
		wrong := withTable(im, api.Table{Buckets: im.Table.Buckets, Filter: filter})
		wantWrong(t, wrong)
		wantLook(t, ref("f"), -1, at(1, 0), []int{0, 1}, wrong, image("f"))
		wantLinear(t, ref("f"), -1, at(0, 1), wrong, image("f"))
	}
	for _, filter := range []api.Filter{{}, {Words: make([]uint64, 3), Shift: 6}, {Words: make([]uint64, 1)}, {Words: make([]uint64, 1), Shift: 32}} {
		wrong := withTable(im, api.Table{Buckets: im.Table.Buckets, Filter: filter})
		wantWrong(t, wrong)
		wantLook(t, ref("f"), -1, at(0, 1), []int{2, 0}, wrong, image("f"))
		wantLook(t, ref("h"), -1, nothing(), []int{2, 0}, wrong, image("f"))
		wantLinear(t, ref("f"), -1, at(0, 1), wrong, image("f"))
	}
}

// P14.1: the table of one image tells nothing of another one's symbols.
func TestLookByForeignTables(t *testing.T) {
	one, two := image("f"), image("g", "f")
	wantLook(t, ref("f"), -1, nothing(), []int{1}, withTable(two, one.Table))
	wantLook(t, ref("f"), -1, nothing(), []int{0}, withTable(image(), one.Table))
	wantLook(t, ref("f"), -1, at(1, 1), []int{1, 2}, withTable(two, one.Table), two)
	wantLook(t, ref("f"), -1, at(0, 0), []int{1, 0}, withTable(one, two.Table), two)
	wantLinear(t, ref("f"), -1, at(0, 1), withTable(two, one.Table), two)
}

// P14.1 and P14.2: more symbols and more buckets than may be are no error.
func TestLookInTooGreatImages(t *testing.T) {
	great := api.Image{Syms: append(slices.Repeat(symsOf("g"), 700), sym("f"))}
	great.Table = oneBucket(5, 700)
	wantWrong(t, great)
	wantLook(t, ref("f"), -1, at(0, 700), []int{2}, great)
	wantLinear(t, ref("f"), -1, at(0, 700), great)
	great.Table.Buckets = slices.Repeat([][]int{{700}}, 2000)
	wantLook(t, ref("f"), -1, at(1, 700), []int{0, 1}, image("g"), great)
	wantLook(t, ref("g"), -1, nothing(), []int{1}, great)
	wantLinear(t, ref("g"), -1, at(0, 0), great)
}

// bucketsOf fills so many buckets by the hash of the document's words.
func bucketsOf(count int, syms []api.Symbol) [][]int {
	buckets := make([][]int, count)
	for i, s := range syms {
		if s.Defined && s.Vis != api.Hidden {
			at := hashOf(s.Name) % count
			buckets[at] = append(buckets[at], i)
		}
	}
	return buckets
}

func hashOf(name string) int {
	h := 5381
	for i := range len(name) {
		h = (33*h + int(name[i])) % (1 << 32)
	}
	return h
}

// filled is a valid table with so many buckets, and with more bits than it needs.
func filled(count, words, shift int, syms []api.Symbol) api.Table {
	return api.Table{Buckets: bucketsOf(count, syms), Filter: api.Filter{Words: slices.Repeat([]uint64{math.MaxUint64}, words), Shift: shift}}
}

// P14.3: valid tables of other forms than layer 8 makes yield the same definitions.
func TestLookByOtherValidTables(t *testing.T) {
	lists := [][]string{
		{"g", "f@V1", "h"},
		{"h@@V3", "f@V1", "f@@V2", "f@V3", "g hidden"},
		{"g ref", "f", "h protected", "x", "y", "z", "u", "v", "w"},
	}
	for _, buckets := range []int{1, 2, 3, 7, 64, 511, 512} {
		for _, words := range []int{1, 2, 64} {
			for _, shift := range []int{1, 6, 31} {
				var images []api.Image
				for _, list := range lists {
					syms := symsOf(list...)
					im := api.Image{Syms: syms, Table: filled(buckets, words, shift, syms)}
					if e := table.Right(im.Table, syms...); e != api.OK {
						t.Fatalf("the table is not valid: %d", e)
					}
					images = append(images, im)
				}
				wantBoth(t, ref("f"), -1, at(1, 2), images...)
				wantBoth(t, ref("f"), 1, at(2, 1), images...)
				wantBoth(t, ref("f@V1"), -1, at(0, 1), images...)
				wantBoth(t, ref("f@V1"), 0, at(1, 1), images...)
				wantBoth(t, ref("f@V9"), -1, at(2, 1), images...)
				wantBoth(t, ref("g"), -1, at(0, 0), images...)
				wantBoth(t, ref("g"), 0, nothing(), images...)
				wantBoth(t, ref("h"), 1, at(0, 2), images...)
				wantBoth(t, ref("h"), 0, at(1, 0), images...)
				wantBoth(t, ref("w@V1"), -1, at(2, 8), images...)
				wantBoth(t, ref("none"), -1, nothing(), images...)
			}
		}
	}
}
