package scope_test

import (
	"math"
	"slices"
	"strconv"
	"testing"

	"clevis/api"
	"clevis/scope"
)

// P14.1 and P14.2: the example of the chapter.
func TestLookExample(t *testing.T) {
	one, two := image("f"), image("g", "f")
	wantLook(t, ref("f"), -1, at(0, 0), []int{1, 0}, one, two)
	wantLook(t, ref("f"), 0, at(1, 1), []int{0, 2}, one, two)
	wantLinear(t, ref("f"), -1, at(0, 0), one, two)
	wantLinear(t, ref("f"), 0, at(1, 1), one, two)
}

// P14.1 and P14.2: without an image nothing is found, and there are no names.
func TestLookWithoutImages(t *testing.T) {
	for _, skip := range append(noIndices(0), 0, 1) {
		wantLook(t, ref("f"), skip, nothing(), nil)
		wantLook(t, ref("f@V"), skip, nothing(), []int{}, []api.Image{}...)
		wantLinear(t, ref("f"), skip, nothing())
	}
}

// P14.1 and P14.2: one image, which has the name first, last, not at all, or has nothing.
func TestLookInOneImage(t *testing.T) {
	im := image("f", "g", "h")
	wantLook(t, ref("f"), -1, at(0, 0), []int{1}, im)
	wantLook(t, ref("g"), -1, at(0, 1), []int{2}, im)
	wantLook(t, ref("h"), -1, at(0, 2), []int{3}, im)
	wantLook(t, ref("x"), -1, nothing(), []int{0}, im)
	wantLook(t, ref("x"), -1, nothing(), []int{3}, unfiltered(im))
	wantLook(t, ref("f"), 0, nothing(), []int{0}, im)
	wantLook(t, ref("f"), -1, nothing(), []int{0}, image())
	wantLook(t, ref("f"), -1, nothing(), []int{0}, api.Image{})
	for k, name := range []string{"f", "g", "h"} {
		wantLinear(t, ref(name), -1, at(0, k), im)
		wantLinear(t, ref(name), 0, nothing(), im)
	}
	wantLinear(t, ref("x"), -1, nothing(), im)
	wantLinear(t, ref("f"), -1, nothing(), image())
	wantLinear(t, ref("f"), -1, nothing(), api.Image{})
}

// trial is an image, what is found in it of f@V2, and how many symbols are examined for it.
type trial struct {
	im       api.Image
	sym      int
	examined int
}

// trials are images of each kind: those whose filter lacks f, those in which something is examined in vain, and those that define f.
func trials() []trial {
	return []trial{
		{image("g"), -1, 0},
		{image(), -1, 0},
		{unfiltered(image("g", "h")), -1, 2},
		{image("g", "f@@V1", "f@V3"), -1, 3},
		{image("f@@V2"), 0, 1},
		{image("f@V1", "g hidden", "f@V2", "f@@V3"), 2, 2},
	}
}

// eachChoice goes through all lists of n of the elements.
func eachChoice[T any](n int, elements []T, visit func(chosen []T)) {
	chosen := make([]T, n)
	var choose func(i int)
	choose = func(i int) {
		if i == n {
			visit(chosen)
			return
		}
		for _, element := range elements {
			chosen[i] = element
			choose(i + 1)
		}
	}
	choose(0)
}

// wantByTrials works out by hand what Look returns: the names end where f is found, and have 0 for what is skipped.
func wantByTrials(t *testing.T, skip int, chosen []trial) {
	t.Helper()
	want, names := nothing(), make([]int, len(chosen))
	var images []api.Image
	for i, c := range chosen {
		images = append(images, c.im)
		if want.Is || i == skip {
			continue
		}
		names[i] = c.examined
		if c.sym >= 0 {
			want = at(i, c.sym)
		}
	}
	wantLook(t, ref("f@V2"), skip, want, names, images...)
	wantLinear(t, ref("f@V2"), skip, want, images...)
}

// P14.1 to P14.3: f defined in none, in the first, in the last, in several, without each of the images and without none.
func TestLookInSeveralImages(t *testing.T) {
	for n := range 5 {
		eachChoice(n, trials(), func(chosen []trial) {
			for skip := -1; skip <= n; skip++ {
				wantByTrials(t, skip, chosen)
			}
		})
	}
}

// P14.1: the names of each image, in the five places that they may have.
func TestNames(t *testing.T) {
	lacking, vain, has := image("g"), image("f@@V1", "f@V3"), image("g", "f@@V2")
	wantLook(t, ref("f@V2"), -1, at(3, 1), []int{0, 2, 2, 2, 0, 0, 0}, lacking, vain, vain, has, vain, has, lacking)
	wantLook(t, ref("f@V2"), 3, at(5, 1), []int{0, 2, 2, 0, 2, 2, 0}, lacking, vain, vain, has, vain, has, lacking)
	wantLook(t, ref("f@V2"), 1, at(3, 1), []int{0, 0, 2, 2, 0, 0, 0}, lacking, vain, vain, has, vain, has, lacking)
	wantLook(t, ref("f@V2"), 5, at(3, 1), []int{0, 2, 2, 2, 0, 0, 0}, lacking, vain, vain, has, vain, has, lacking)
	wantLook(t, ref("f@V2"), -1, at(0, 1), []int{2, 0, 0}, has, has, has)
	wantLook(t, ref("f@V2"), 0, at(1, 1), []int{0, 2, 0}, has, has, has)
	wantLook(t, ref("f@V2"), 2, nothing(), []int{2, 0, 0, 2}, vain, lacking, has, vain)
	wantLook(t, ref("f@V2"), 2, nothing(), []int{0, 2, 0}, lacking, vain, vain)
}

// P14.1 and P14.2: a number that is no image's skips none, the first one neither.
func TestSkipNone(t *testing.T) {
	images := []api.Image{unfiltered(image("g")), image("f@@V1", "f"), image("f@@V2", "f hidden"), image("f@@V2")}
	for _, skip := range noIndices(len(images)) {
		wantLook(t, ref("g"), skip, at(0, 0), []int{1, 0, 0, 0}, images...)
		wantLook(t, ref("f@V2"), skip, at(2, 0), []int{1, 2, 1, 0}, images...)
		wantLook(t, ref("x"), skip, nothing(), []int{1, 0, 0, 0}, images...)
		wantLinear(t, ref("g"), skip, at(0, 0), images...)
		wantLinear(t, ref("f@V2"), skip, at(2, 0), images...)
		wantLinear(t, ref("x"), skip, nothing(), images...)
	}
}

// P14.1 to P14.3: without a version a reference does not denote an old definition, so that another image's may be first.
func TestLookOfOldDefinitions(t *testing.T) {
	images := []api.Image{image("f@V1"), image("f@V2", "g"), image("f@V1", "f@@V2"), image("f")}
	wantLook(t, ref("f"), -1, at(2, 1), []int{1, 2, 2, 0}, images...)
	wantLook(t, ref("f"), 2, at(3, 0), []int{1, 2, 0, 1}, images...)
	wantLook(t, ref("f"), -1, nothing(), []int{1, 2}, images[:2]...)
	wantBoth(t, ref("f"), -1, at(2, 1), images...)
	wantBoth(t, ref("f"), 2, at(3, 0), images...)
	wantBoth(t, ref("f"), -1, nothing(), images[:2]...)
	wantBoth(t, ref("f@V1"), -1, at(0, 0), images...)
	wantBoth(t, ref("f@V1"), 0, at(2, 0), images...)
	wantBoth(t, ref("f@V2"), -1, at(1, 0), images...)
	wantBoth(t, ref("f@V2"), 1, at(2, 1), images...)
	wantBoth(t, ref("f@V3"), -1, at(3, 0), images...)
	wantBoth(t, ref("f@V3"), 3, nothing(), images...)
}

// P14.1 to P14.3: an image without versions satisfies any; whether there are versions is asked of each image for itself.
func TestLookInImagesWithoutVersions(t *testing.T) {
	plain, versioned := image("g", "f"), image("f@@V1")
	wantBoth(t, ref("f@V2"), -1, at(1, 1), versioned, plain)
	wantBoth(t, ref("f@V2"), -1, at(0, 1), plain, versioned)
	wantBoth(t, ref("f@V1"), -1, at(0, 1), plain, versioned)
	wantBoth(t, ref("f@V1"), 0, at(1, 0), plain, versioned)
	// A definition of another name makes it an image with versions, even if it is hidden; a reference does not.
	wantBoth(t, ref("f@V2"), -1, at(1, 1), image("f", "g@@V2"), plain)
	wantBoth(t, ref("f@V2"), -1, at(1, 1), image("f", "g@V2"), plain)
	wantBoth(t, ref("f@V2"), -1, at(1, 1), image("g@@V9 hidden", "f"), plain)
	wantBoth(t, ref("f@V2"), -1, at(0, 0), image("f", "g@V2 ref"), plain)
	wantBoth(t, ref("f"), -1, at(0, 0), image("f", "g@@V2"), plain)
	wantBoth(t, ref("f"), -1, at(0, 1), image("g@@V9 hidden", "f"), plain)
}

// P14.1 to P14.3: hidden definitions, and references, are not found; protected ones are.
func TestLookByVisibility(t *testing.T) {
	for _, passed := range []string{"f hidden", "f ref", "f ref weak", "f@@V hidden", "f@V hidden", "f@V ref"} {
		wantBoth(t, ref("f"), -1, at(1, 0), image(passed), image("f"))
		wantBoth(t, ref("f@V"), -1, at(1, 0), image(passed), image("f"))
		wantBoth(t, ref("f"), -1, at(0, 1), image(passed, "f"), image("f"))
		wantBoth(t, ref("f"), -1, nothing(), image(passed), image(passed))
	}
	for _, found := range []string{"f", "f protected", "f weak", "f var", "f tls", "f@@V", "f@@V protected weak tls"} {
		wantBoth(t, ref("f"), -1, at(0, 0), image(found), image("f"))
		wantBoth(t, ref("f@V"), -1, at(0, 0), image(found), image("f"))
		wantBoth(t, ref("f"), -1, at(1, 2), image("g"), image("f hidden", "g", found), image("f"))
	}
}

// P14.1 and P14.2: only the name and the version of a reference count.
func TestLookByOtherFields(t *testing.T) {
	images := []api.Image{image("g"), image("f@V1", "f@@V2 var"), image("f tls")}
	for _, kind := range []api.SymKind{0, api.Func, api.Var, api.TlsVar, -1, 9} {
		for _, vis := range []api.Vis{api.Open, api.Protected, api.Hidden, 3, -1} {
			for _, is := range []bool{false, true} {
				r := api.Symbol{Name: "f", Kind: kind, Vis: vis, Old: is, Defined: !is, Weak: is, Value: -5, Size: math.MaxInt}
				wantBoth(t, r, -1, at(1, 1), images...)
				wantBoth(t, r, 1, at(2, 0), images...)
				r.Version = "V1"
				wantBoth(t, r, -1, at(1, 0), images...)
				r.Name = "h"
				wantBoth(t, r, -1, nothing(), images...)
			}
		}
	}
}

// P14.1 and P14.2: a definition of an image may be the reference, and denotes itself or one ahead of it.
func TestLookOfDefinitions(t *testing.T) {
	images := []api.Image{image("g"), image("f@V1", "f@@V2"), image("f@@V2", "f@V1")}
	for i, im := range images {
		for k, s := range im.Syms {
			want := at(min(i, 1), k)
			if i == 2 {
				want = at(1, 1-k)
			}
			wantBoth(t, s, -1, want, images...)
		}
	}
}

// P14.1 and P14.2: names that are none, and names of one hash.
func TestLookOfOtherNames(t *testing.T) {
	empty, long := api.Symbol{Defined: true}, api.Symbol{Name: "a name@with\x00anything\xff", Defined: true}
	images := []api.Image{made(empty, long), image("bA", "ab"), image("ab")}
	wantBoth(t, api.Symbol{}, -1, at(0, 0), images...)
	wantBoth(t, long, -1, at(0, 1), images...)
	wantBoth(t, ref("ab"), -1, at(1, 1), images...)
	wantBoth(t, ref("bA"), -1, at(1, 0), images...)
	wantLook(t, ref("ab"), -1, at(1, 1), []int{0, 1}, image("g"), image("bA hidden", "ab"))
	wantLook(t, ref("ab"), -1, at(2, 0), []int{0, 1, 1}, image("g"), image("bA", "ab hidden"), image("ab"))
}

// P14.1 to P14.3: of several definitions in one image the first one is found.
func TestLookOfEqualDefinitions(t *testing.T) {
	im := image("g", "f hidden", "f@V1", "f@@V2", "f@@V2", "f", "f@V1")
	wantBoth(t, ref("f"), -1, at(1, 3), image("g"), im, im)
	wantBoth(t, ref("f@V2"), -1, at(1, 3), image("g"), im, im)
	wantBoth(t, ref("f@V1"), -1, at(1, 2), image("g"), im, im)
	wantBoth(t, ref("f@V3"), -1, nothing(), image("g"), im, im)
}

// manyImages are n images, of which image i defines the name of i and the name all.
func manyImages(n int) []api.Image {
	var images []api.Image
	for i := range n {
		images = append(images, image("n"+strconv.Itoa(i), "all"))
	}
	return images
}

// P14.1 to P14.3: as many images as there may be objects, and more.
func TestLookInManyImages(t *testing.T) {
	for _, n := range []int{1, 2, 64, 65, 300} {
		images := manyImages(n)
		for _, i := range []int{0, n / 2, n - 1} {
			wantBoth(t, ref("n"+strconv.Itoa(i)), -1, at(i, 0), images...)
			wantBoth(t, ref("n"+strconv.Itoa(i)), i, nothing(), images...)
		}
		wantLook(t, ref("all"), -1, at(0, 1), append([]int{2}, make([]int, n-1)...), images...)
		if n > 1 {
			wantBoth(t, ref("all"), 0, at(1, 1), images...)
		}
	}
}

// P14.1 to P14.3: as many symbols as an image may have, so that the names tell the bucket alone.
func TestLookInGreatImages(t *testing.T) {
	var syms []api.Symbol
	for k := range 512 {
		syms = append(syms, sym("n"+strconv.Itoa(k)))
	}
	great := made(syms...)
	for k := range syms {
		wantBoth(t, syms[k], -1, at(1, k), image("g"), great)
		_, names := scope.Look(syms[k], -1, image("g"), great)
		bucket := slices.IndexFunc(great.Table.Buckets, func(bucket []int) bool { return slices.Contains(bucket, k) })
		if names[1] != slices.Index(great.Table.Buckets[bucket], k)+1 {
			t.Errorf("%d symbols are examined for symbol %d", names[1], k)
		}
	}
}
