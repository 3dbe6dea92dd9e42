package scope_test

import (
	"fmt"
	"math"
	"slices"
	"strings"
	"testing"

	"clevis/api"
	"clevis/scope"
	"clevis/table"
)

// sym returns the symbol of a short text: its name, its version behind `@` (old) or `@@`, and then, each behind a space, what else it has. Without any of it, it is an open function that is defined.
func sym(text string) api.Symbol {
	words := strings.Fields(text)
	name, version, _ := strings.Cut(words[0], "@")
	s := api.Symbol{Name: name, Kind: api.Func, Defined: true, Value: 64, Size: 8}
	s.Version = strings.TrimPrefix(version, "@")
	s.Old = version != "" && version == s.Version
	for _, word := range words[1:] {
		switch word {
		case "protected":
			s.Vis = api.Protected
		case "hidden":
			s.Vis = api.Hidden
		case "weak":
			s.Weak = true
		case "var":
			s.Kind = api.Var
		case "tls":
			s.Kind = api.TlsVar
		case "ref":
			s.Defined, s.Old, s.Value, s.Size = false, false, 0, 0
		default:
			panic(text)
		}
	}
	return s
}

func symsOf(texts ...string) []api.Symbol {
	var syms []api.Symbol
	for _, text := range texts {
		syms = append(syms, sym(text))
	}
	return syms
}

// ref is a reference to a function: f, or f@V1.
func ref(text string) api.Symbol { return sym(text + " ref") }

// made returns an image that has the symbols, and the table that layer 8 makes of them.
func made(syms ...api.Symbol) api.Image {
	t, e := table.Make(syms...)
	if e != api.OK {
		panic(e)
	}
	return api.Image{Syms: syms, Table: t}
}

// image returns an image of the symbols of these texts.
func image(texts ...string) api.Image { return made(symsOf(texts...)...) }

// withTable returns the image with another table.
func withTable(im api.Image, t api.Table) api.Image {
	im.Table = t
	return im
}

// full is a filter that lacks nothing.
func full() api.Filter { return api.Filter{Words: []uint64{math.MaxUint64}, Shift: 6} }

// unfiltered returns the image with a filter that lacks nothing, so that the symbols of a bucket are examined for any name.
func unfiltered(im api.Image) api.Image {
	return withTable(im, api.Table{Buckets: im.Table.Buckets, Filter: full()})
}

// bare returns an image whose table has nothing: it is not valid.
func bare(texts ...string) api.Image { return api.Image{Syms: symsOf(texts...)} }

// at is what is found in an image.
func at(image, sym int) scope.Found { return scope.Found{Image: image, Sym: sym, Is: true} }

// nothing is what is found where nothing is.
func nothing() scope.Found { return scope.Found{} }

// noIndices are numbers of no element of a list of n.
func noIndices(n int) []int {
	return []int{-1, -2, -n - 1, n, n + 1, 1 << 16, 1 << 32, -1 << 32, math.MaxInt, math.MinInt}
}

// textOf has images within the bounds of a line of a report.
func textOf(images []api.Image) string {
	var all []string
	for _, im := range images {
		all = append(all, fmt.Sprintf("%+v by %v", im.Syms, im.Table))
	}
	text := strings.Join(all, "; ")
	return text[:min(len(text), 400)]
}

func wantLook(t *testing.T, r api.Symbol, skip int, want scope.Found, names []int, images ...api.Image) {
	t.Helper()
	got, gotNames := scope.Look(r, skip, images...)
	if got != want || !slices.Equal(gotNames, names) {
		t.Errorf("Look of %q, version %q, without %d is %v and %v, want %v and %v: %s", r.Name, r.Version, skip, got, gotNames, want, names, textOf(images))
	}
}

func wantLinear(t *testing.T, r api.Symbol, skip int, want scope.Found, images ...api.Image) {
	t.Helper()
	if got := scope.Linear(r, skip, images...); got != want {
		t.Errorf("Linear of %q, version %q, without %d is %v, want %v: %s", r.Name, r.Version, skip, got, want, textOf(images))
	}
}

// wantBoth asks for the same definition of Look, whatever its names, and of Linear.
func wantBoth(t *testing.T, r api.Symbol, skip int, want scope.Found, images ...api.Image) {
	t.Helper()
	got, names := scope.Look(r, skip, images...)
	if got != want || len(names) != len(images) {
		t.Errorf("Look of %q, version %q, without %d is %v and %v, want %v: %s", r.Name, r.Version, skip, got, names, want, textOf(images))
	}
	wantLinear(t, r, skip, want, images...)
}

func wantBind(t *testing.T, i, k int, copied bool, want scope.Found, images ...api.Image) {
	t.Helper()
	if got, e := scope.Bind(i, k, copied, images...); got != want || e != api.OK {
		t.Errorf("Bind of %d, %d, copied %t, is %v and %d, want %v and 0: %s", i, k, copied, got, e, want, textOf(images))
	}
}

func wantNoBind(t *testing.T, i, k int, copied bool, want api.Errno, images ...api.Image) {
	t.Helper()
	if got, e := scope.Bind(i, k, copied, images...); got != nothing() || e != want {
		t.Errorf("Bind of %d, %d, copied %t, is %v and %d, want nothing and %d: %s", i, k, copied, got, e, want, textOf(images))
	}
}
