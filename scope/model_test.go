package scope_test

import (
	"math/rand/v2"
	"slices"
	"testing"

	"clevis/api"
	"clevis/scope"
	"clevis/table"
)

// denotes goes by the words of chapter 7, for all symbols of an image.
func denotes(r api.Symbol, k int, syms []api.Symbol) bool {
	s := syms[k]
	if !s.Defined || s.Vis == api.Hidden || s.Name != r.Name {
		return false
	}
	if r.Version == "" {
		return !s.Old
	}
	hasVersions := slices.ContainsFunc(syms, func(other api.Symbol) bool { return other.Defined && other.Version != "" })
	return !hasVersions || s.Version == r.Version
}

// modelLinear collects all definitions that may be meant, and takes the first one.
func modelLinear(r api.Symbol, skip int, images []api.Image) scope.Found {
	var all []scope.Found
	for i, im := range images {
		for k := range im.Syms {
			if i != skip && denotes(r, k, im.Syms) {
				all = append(all, at(i, k))
			}
		}
	}
	return append(all, nothing())[0]
}

// modelLook asks all tables, and takes away what is behind the first one that has it.
func modelLook(r api.Symbol, skip int, images []api.Image) (scope.Found, []int) {
	found, names := nothing(), make([]int, len(images))
	for i := len(images) - 1; i >= 0; i-- {
		if i == skip {
			continue
		}
		k, n := table.Find(images[i].Table, r, images[i].Syms...)
		if names[i] = n; k >= 0 {
			found = at(i, k)
			clear(names[i+1:])
		}
	}
	return found, names
}

// modelBind looks for what a symbol denotes by going through all symbols, so that it holds for valid tables alone.
func modelBind(i, k int, copied bool, images []api.Image) (scope.Found, api.Errno) {
	if i < 0 || k < 0 || i > len(images)-1 || k > len(images[i].Syms)-1 {
		return nothing(), 140
	}
	s := images[i].Syms[k]
	if !copied && s.Defined && s.Vis != 0 {
		return at(i, k), 0
	}
	others := slices.Clone(images)
	if copied {
		others[i] = api.Image{}
	}
	found := modelLinear(s, -1, others)
	if found == nothing() && !s.Weak {
		return nothing(), 141
	}
	return found, 0
}

func areRight(images []api.Image) bool {
	return !slices.ContainsFunc(images, func(im api.Image) bool { return table.Right(im.Table, im.Syms...) != api.OK })
}

// compare holds Look and Linear against the models, and against each other if the tables are valid.
func compare(t *testing.T, r api.Symbol, skip int, images ...api.Image) {
	t.Helper()
	found, names := modelLook(r, skip, images)
	wantLook(t, r, skip, found, names, images...)
	linear := modelLinear(r, skip, images)
	wantLinear(t, r, skip, linear, images...)
	if areRight(images) {
		wantBoth(t, r, skip, linear, images...)
	}
}

func compareBind(t *testing.T, i, k int, copied bool, images ...api.Image) {
	t.Helper()
	if want, e := modelBind(i, k, copied, images); e == api.OK {
		wantBind(t, i, k, copied, want, images...)
	} else {
		wantNoBind(t, i, k, copied, e, images...)
	}
}

// compareAll asks for each of the references, without each of the images, and binds each symbol of each image, and some that are none.
func compareAll(t *testing.T, refs []api.Symbol, images ...api.Image) {
	t.Helper()
	for skip := -1; skip <= len(images); skip++ {
		for _, r := range refs {
			compare(t, r, skip, images...)
		}
	}
	for i := -1; i <= len(images); i++ {
		for k := -1; k <= 4; k++ {
			compareBind(t, i, k, false, images...)
			compareBind(t, i, k, true, images...)
		}
	}
}

func someRefs() []api.Symbol {
	return []api.Symbol{ref("f"), ref("f@V1"), ref("f@V2"), ref("f@V3"), ref("g"), ref("g@V1"), ref("h")}
}

// smallImages are images of each kind, all of whose tables are valid.
func smallImages() []api.Image {
	return []api.Image{
		image(),
		image("f"),
		image("g ref", "f weak"),
		image("f protected", "g"),
		image("f hidden", "g weak ref"),
		image("f ref"),
		image("f@V1 ref weak", "f@V2 ref"),
		image("f@@V1"),
		image("f@V1", "f@@V2"),
		image("f@V1 protected", "f@@V2 hidden", "f@V3 weak"),
		image("f@V2", "f", "f@V1"),
		image("g@@V1", "f"),
		image("f hidden weak", "g", "f", "g"),
		image("g@V1", "g@V2 ref", "f@V2 weak", "f"),
	}
}

// P14.1 to P14.4: all lists of at most three small images.
func TestSmallImagesByDefinition(t *testing.T) {
	for n := range 4 {
		eachChoice(n, smallImages(), func(images []api.Image) { compareAll(t, someRefs(), images...) })
	}
}

// smallSyms are the symbols of one name with and without versions, of each kind.
func smallSyms() []api.Symbol {
	return symsOf("f", "f weak", "f protected", "f hidden weak", "f ref", "f ref weak", "f@V1", "f@@V1", "f@V2 protected", "f@@V2 hidden", "f@V1 ref", "f@V2 ref weak", "g", "g@@V1 hidden")
}

// P14.1 to P14.4: all images of at most two symbols behind an image of one.
func TestSmallSymbolsByDefinition(t *testing.T) {
	for n := range 3 {
		eachChoice(n, smallSyms(), func(syms []api.Symbol) {
			for _, s := range smallSyms() {
				compareAll(t, someRefs()[:3], made(s), made(syms...))
			}
		})
	}
}

// someSyms returns so many symbols, which may be wrong ones.
func someSyms(r *rand.Rand, count int) []api.Symbol {
	names, versions := []string{"f", "g", "h", "ab", "bA", "i", "j", ""}, []string{"", "", "", "V1", "V2", "V3"}
	isVersioned := r.IntN(2) > 0
	var syms []api.Symbol
	for range count {
		s := api.Symbol{Name: names[r.IntN(len(names))], Kind: api.SymKind(1 + r.IntN(3)), Weak: r.IntN(3) == 0, Defined: r.IntN(4) > 0}
		if isVersioned {
			s.Version = versions[r.IntN(len(versions))]
		}
		s.Old, s.Vis = r.IntN(5) == 0, max(0, api.Vis(r.IntN(7)-3))
		syms = append(syms, s)
	}
	return syms
}

// spoil returns a table that differs from the given one, and is not valid for most symbols.
func spoil(r *rand.Rand, tab api.Table, syms int) api.Table {
	buckets := slices.Clone(tab.Buckets)
	at := r.IntN(len(buckets))
	switch r.IntN(7) {
	case 0:
		buckets = nil
	case 1:
		buckets[at] = nil
	case 2:
		buckets[at] = slices.Clone(buckets[at])
		slices.Reverse(buckets[at])
	case 3:
		buckets[at] = append([]int{-1, syms, r.IntN(syms + 1)}, buckets[at]...)
	case 4:
		buckets = append(buckets, buckets[at])
	case 5:
		tab.Filter = api.Filter{Words: []uint64{r.Uint64()}, Shift: 6}
	case 6:
		tab.Filter.Shift = r.IntN(40)
	}
	tab.Buckets = buckets
	return tab
}

// someImages returns so many images, whose tables are valid but for some of those that are to be spoilt.
func someImages(r *rand.Rand, count, most int, isSpoilt bool) []api.Image {
	var images []api.Image
	for range count {
		syms := someSyms(r, r.IntN(most+1))
		im := made(syms...)
		if r.IntN(2) > 0 {
			im.Table = filled(1+r.IntN(9), 1, 1+r.IntN(31), syms)
		}
		if isSpoilt && r.IntN(3) > 0 {
			im.Table = spoil(r, im.Table, len(syms))
		}
		images = append(images, im)
	}
	return images
}

// P14.1 to P14.4: images of many symbols, also such as are not valid, by valid tables of any form.
func TestManySymbolsByDefinition(t *testing.T) {
	r := rand.New(rand.NewPCG(14, 1))
	for range 4000 {
		images := someImages(r, r.IntN(7), 1+r.IntN(30), false)
		if !areRight(images) {
			t.Fatalf("a table is not valid: %s", textOf(images))
		}
		for _, s := range someSyms(r, 8) {
			compare(t, s, r.IntN(len(images)+2)-1, images...)
		}
		for i, im := range images {
			for k := range im.Syms {
				compareBind(t, i, k, r.IntN(2) > 0, images...)
			}
		}
	}
}

// P14.1 and P14.2: the same with tables that are not valid.
func TestWrongTablesByDefinition(t *testing.T) {
	r := rand.New(rand.NewPCG(14, 2))
	wrong, differs := 0, 0
	for range 4000 {
		images := someImages(r, 1+r.IntN(6), 1+r.IntN(20), true)
		if !areRight(images) {
			wrong++
		}
		for _, s := range someSyms(r, 8) {
			skip := r.IntN(len(images)+2) - 1
			compare(t, s, skip, images...)
			if found, _ := scope.Look(s, skip, images...); found != scope.Linear(s, skip, images...) {
				differs++
			}
		}
	}
	if wrong < 1000 || differs < 1000 {
		t.Errorf("%d of 4000 lists of images have a table that is not valid, and %d results differ", wrong, differs)
	}
}

// P14.4 and P14.1: Bind returns what Look returns for a reference, by whatever tables.
func TestBindByWrongTablesAsLook(t *testing.T) {
	r := rand.New(rand.NewPCG(14, 3))
	for range 2000 {
		images := someImages(r, 1+r.IntN(5), 6, true)
		for i, im := range images {
			for k, s := range im.Syms {
				copied := r.IntN(2) > 0
				skip := -1
				if copied {
					skip = i
				}
				want, _ := modelLook(api.Symbol{Name: s.Name, Version: s.Version}, skip, images)
				switch {
				case s.Defined && s.Vis != api.Open && !copied:
					wantBind(t, i, k, copied, at(i, k), images...)
				case want.Is || s.Weak:
					wantBind(t, i, k, copied, want, images...)
				default:
					wantNoBind(t, i, k, copied, api.ErrMissing, images...)
				}
			}
		}
	}
}

// fuzzed makes a symbol of each byte but 255, at which an image ends; how says what becomes of the tables.
func fuzzed(b []byte, how int) []api.Image {
	names, versions := []string{"f", "ab", "bA", "g"}, []string{"", "", "V1", "V2"}
	r := rand.New(rand.NewPCG(uint64(how), 4))
	var images []api.Image
	var syms []api.Symbol
	for _, c := range append(slices.Clone(b), 255) {
		if c < 255 && len(syms) < 512 {
			s := api.Symbol{Name: names[c%4], Version: versions[c>>2%4], Vis: api.Vis(c >> 4 % 4), Defined: c>>6%2 > 0, Weak: len(syms)%2 > 0}
			s.Old, s.Kind = c>>7 > 0 && s.Version != "", api.Func
			syms = append(syms, s)
			continue
		}
		im := made(syms...)
		if how > 0 {
			im.Table = filled(1+r.IntN(9), 1, 1+r.IntN(31), syms)
		}
		if how > 1 {
			im.Table = spoil(r, im.Table, len(syms))
		}
		images, syms = append(images, im), nil
	}
	return images
}

// P14.1 to P14.4: images of any symbols, by tables that are valid and not.
func FuzzScopes(f *testing.F) {
	f.Add([]byte{64, 255, 67, 64}, 0, 0, byte(0), 1, 0)
	f.Add([]byte{64, 255, 80, 96, 112, 255, 0}, 1, 1, byte(4), 2, 0)
	f.Add([]byte{200, 76, 255, 64, 255, 8, 12}, 2, -1, byte(8), 0, 1)
	f.Add([]byte{65, 66, 65, 255, 255, 255, 1, 2}, 0, 3, byte(1), 3, 1)
	f.Add([]byte{}, 3, 5, byte(255), 9, -9)
	f.Fuzz(func(t *testing.T, b []byte, how, skip int, c byte, i, k int) {
		images := fuzzed(b, how)
		s := fuzzed([]byte{c, 0}, 0)[0].Syms
		if len(s) > 0 {
			compare(t, s[0], skip, images...)
		}
		if areRight(images) {
			compareBind(t, i, k, false, images...)
			compareBind(t, i, k, true, images...)
		}
	})
}
