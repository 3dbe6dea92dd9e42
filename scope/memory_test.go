package scope_test

import (
	"reflect"
	"slices"
	"testing"

	"clevis/api"
	"clevis/scope"
)

// withRoom returns the same elements in memory of their own, with room behind them in which others stand.
func withRoom[T any](list []T, behind ...T) []T {
	return append(slices.Clone(list), behind...)[:len(list)]
}

// roomy returns images in memory of their own. Behind each list there are elements with which f would be found if they were read.
func roomy(images []api.Image) []api.Image {
	var own []api.Image
	for _, im := range images {
		var buckets [][]int
		for _, bucket := range im.Table.Buckets {
			buckets = append(buckets, withRoom(bucket, 0, 1, 2))
		}
		own = append(own, api.Image{
			Name: "b",
			Syms: withRoom(im.Syms, symsOf("f", "f@@V2", "f@V1")...),
			Table: api.Table{
				Buckets: withRoom(buckets, []int{0, 1}),
				Filter:  api.Filter{Words: withRoom(im.Table.Filter.Words, 1<<64-1), Shift: im.Table.Filter.Shift},
			},
		})
	}
	return withRoom(own, image("f"), image("f@V1", "f@@V2"))
}

// whole returns all that is in the memory of images, the room behind each list as well.
func whole(images []api.Image) []api.Image {
	var all []api.Image
	for _, im := range images[:cap(images)] {
		im.Syms = slices.Clone(im.Syms[:cap(im.Syms)])
		var buckets [][]int
		for _, bucket := range im.Table.Buckets[:cap(im.Table.Buckets)] {
			buckets = append(buckets, slices.Clone(bucket[:cap(bucket)]))
		}
		im.Table.Buckets = buckets
		im.Table.Filter.Words = slices.Clone(im.Table.Filter.Words[:cap(im.Table.Filter.Words)])
		all = append(all, im)
	}
	return all
}

func sameImages(a, b []api.Image) bool { return reflect.DeepEqual(a, b) }

// someLists are lists of images, in some of which f is found.
func someLists() [][]api.Image {
	var lists [][]api.Image
	for n := range 3 {
		eachChoice(n, append(smallImages(), bare("f", "g")), func(images []api.Image) { lists = append(lists, slices.Clone(images)) })
	}
	return lists
}

// W6: all functions leave what they are given as it was, with what is behind it.
func TestArgumentsStay(t *testing.T) {
	for _, list := range someLists() {
		own := roomy(list)
		was := whole(own)
		for i := -1; i <= len(list); i++ {
			for _, r := range someRefs() {
				scope.Look(r, i, own...)
				scope.Linear(r, i, own...)
			}
			for k := -1; k < 4; k++ {
				scope.Bind(i, k, false, own...)
				scope.Bind(i, k, true, own...)
			}
		}
		if !sameImages(whole(own), was) {
			t.Errorf("changed to %s", textOf(whole(own)))
		}
	}
}

// W6: what is behind the lists that are given is not read.
func TestRoomIsNotRead(t *testing.T) {
	for _, list := range someLists() {
		own := roomy(list)
		for i := -1; i <= len(list); i++ {
			for _, r := range someRefs() {
				found, names := modelLook(r, i, list)
				wantLook(t, r, i, found, names, own...)
				wantLinear(t, r, i, modelLinear(r, i, list), own...)
			}
			for k := -1; k < 4; k++ {
				want, e := scope.Bind(i, k, true, list...)
				if got, gotE := scope.Bind(i, k, true, own...); got != want || gotE != e {
					t.Errorf("Bind of %d, %d is %v and %d, want %v and %d: %s", i, k, got, gotE, want, e, textOf(list))
				}
			}
		}
	}
}

// W6: names are their owner's: they may be written to, and grow, without a change of what is given.
func TestNamesAreNew(t *testing.T) {
	for _, list := range someLists() {
		own := roomy(list)
		was := whole(own)
		for i := -1; i <= len(list); i++ {
			for _, r := range someRefs() {
				_, names := scope.Look(r, i, own...)
				_, others := scope.Look(r, i, own...)
				wasOthers := slices.Clone(others)
				for at := range names[:cap(names)] {
					names[:cap(names)][at] = 77
				}
				_ = append(names, 77)
				if !slices.Equal(others, wasOthers) {
					t.Errorf("Look of %q without %d: %v then, was %v", r.Name, i, others, wasOthers)
				}
			}
		}
		if !sameImages(whole(own), was) {
			t.Errorf("changed to %s", textOf(whole(own)))
		}
	}
}

// W6: nothing that was given is kept, so that it may be others' then.
func TestNothingIsKept(t *testing.T) {
	images := roomy([]api.Image{image("g"), image("f"), image("f")})
	found, names := scope.Look(ref("f"), -1, images...)
	images[1].Syms[0].Name, images[0] = "h", image("h", "f")
	if found != at(1, 0) || !slices.Equal(names, []int{0, 1, 0}) {
		t.Errorf("%v and %v then", found, names)
	}
	wantLook(t, ref("f"), -1, at(0, 1), []int{2, 0, 0}, images...)
	wantLook(t, ref("f"), 0, at(2, 0), []int{0, 1, 1}, images...)
	wantLinear(t, ref("f"), 0, at(2, 0), images...)
	wantBind(t, 2, 0, false, at(0, 1), images...)
}

// W6: the same image, with the same lists, may be given several times.
func TestImagesThatShare(t *testing.T) {
	im := image("f@V1", "f@@V2 protected")
	wantLook(t, ref("f"), -1, at(0, 1), []int{2, 0, 0}, im, im, im)
	wantLook(t, ref("f"), 0, at(1, 1), []int{0, 2, 0}, im, im, im)
	wantLinear(t, ref("f"), 0, at(1, 1), im, im, im)
	wantBind(t, 2, 0, false, at(0, 0), im, im, im)
	wantBind(t, 2, 1, false, at(2, 1), im, im, im)
	wantBind(t, 2, 1, true, at(0, 1), im, im, im)
	wantBind(t, 0, 1, true, at(1, 1), im, im, im)
}

// W5: lists that are nil, and those that are empty.
func TestNilAndEmpty(t *testing.T) {
	for _, none := range []api.Image{{}, {Syms: []api.Symbol{}, Table: api.Table{Buckets: [][]int{}, Filter: api.Filter{Words: []uint64{}}}}, image(), withTable(image(), api.Table{Buckets: [][]int{{}}, Filter: full()})} {
		wantLook(t, ref("f"), -1, at(1, 0), []int{0, 1}, none, image("f"))
		wantLook(t, ref("f"), 1, nothing(), []int{0, 0}, none, image("f"))
		wantLinear(t, ref("f"), -1, at(1, 0), none, image("f"))
		wantBind(t, 1, 0, false, at(1, 0), none, image("f"))
		wantNoBind(t, 0, 0, false, api.ErrScope, none, image("f"))
		wantNoBind(t, 1, 0, true, api.ErrMissing, none, image("f"))
	}
}

// W2: the same calls return the same results, whatever was called between.
func TestCallsDependOnNothingElse(t *testing.T) {
	for range 3 {
		wantLook(t, ref("f"), -1, at(1, 0), []int{0, 1, 0}, image("g"), image("f"), image("f"))
		wantNoBind(t, 0, 1, false, api.ErrScope, image("f"))
		wantLook(t, ref("f"), 1, at(2, 0), []int{0, 0, 1}, image("g"), image("f"), image("f"))
		wantBind(t, 0, 0, true, at(1, 0), image("f"), image("f"))
		wantLinear(t, ref("f@V1"), -1, at(0, 0), image("f@@V1"), image("f@@V2"))
		wantNoBind(t, 0, 0, false, api.ErrMissing, image("f ref"))
		wantLinear(t, ref("f@V2"), -1, at(1, 0), image("f@@V1"), image("f@@V2"))
		wantLook(t, ref("f"), -1, nothing(), nil)
	}
}
