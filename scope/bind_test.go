package scope_test

import (
	"math"
	"slices"
	"testing"

	"clevis/api"
	"clevis/scope"
)

// P14.4: the example of the chapter.
func TestBindExample(t *testing.T) {
	wantBind(t, 1, 0, false, at(0, 0), image("f"), image("f"))
	wantBind(t, 1, 0, false, at(1, 0), image("f"), image("f protected"))
}

// P14.4: Own is true of what is defined and not open, whatever else it has.
func TestOwn(t *testing.T) {
	for _, vis := range []api.Vis{api.Open, api.Protected, api.Hidden, 3, -1, math.MinInt, math.MaxInt} {
		for _, defined := range []bool{false, true} {
			want := defined && vis != api.Open
			for _, s := range []api.Symbol{
				{}, {Name: "f", Kind: api.Func}, {Name: "f", Version: "V", Kind: api.Var, Weak: true, Value: 64, Size: 8}, {Name: "f", Version: "V", Old: true, Kind: api.TlsVar}, {Name: " ", Old: true, Kind: -1, Value: -1, Size: -1},
			} {
				s.Vis, s.Defined = vis, defined
				if scope.Own(s) != want {
					t.Errorf("Own(%+v) is %t", s, !want)
				}
			}
		}
	}
}

// P14.4: an image that is none, and a symbol that is none, of each image.
func TestBindOutside(t *testing.T) {
	images := []api.Image{image("f", "g weak ref"), image(), image("f weak", "f hidden", "f protected weak")}
	for _, copied := range []bool{false, true} {
		for _, k := range append(noIndices(0), 0, 1) {
			for _, i := range append(noIndices(0), 0, 1) {
				wantNoBind(t, i, k, copied, api.ErrScope)
			}
			for _, i := range noIndices(len(images)) {
				wantNoBind(t, i, k, copied, api.ErrScope, images...)
			}
			wantNoBind(t, 1, k, copied, api.ErrScope, images...)
		}
		for i, im := range images {
			for _, k := range noIndices(len(im.Syms)) {
				wantNoBind(t, i, k, copied, api.ErrScope, images...)
			}
		}
		// A number that is right for another image is wrong for this one.
		wantNoBind(t, 0, 2, copied, api.ErrScope, images...)
		wantNoBind(t, 2, 2, copied, api.ErrScope, images[:2]...)
	}
	wantBind(t, 2, 2, false, at(2, 2), images...)
	wantBind(t, 2, 2, true, at(0, 0), images...)
}

// P14.4: what is its own is itself, whatever others define ahead of it and behind it, and whatever its table has.
func TestBindOfOwn(t *testing.T) {
	for _, own := range []string{"f hidden", "f protected", "f hidden weak", "f protected weak", "f@V protected", "f@@V hidden", "f protected var", "f hidden tls"} {
		for _, other := range []string{"f", "f@@V", "f@V", "f protected", "f weak var", "g"} {
			wantBind(t, 1, 0, false, at(1, 0), image(other), image(own), image(other))
			wantBind(t, 0, 1, false, at(0, 1), image(other, own), image(other))
			wantBind(t, 0, 0, false, at(0, 0), image(own, other))
			wantBind(t, 1, 1, false, at(1, 1), image(other), bare(other, own))
		}
		wantBind(t, 0, 0, false, at(0, 0), image(own))
		wantBind(t, 0, 0, false, at(0, 0), bare(own))
	}
}

// P14.4: an open definition denotes the first one of its name and version, which may be itself.
func TestBindOfOpen(t *testing.T) {
	wantBind(t, 0, 0, false, at(0, 0), image("f"))
	wantBind(t, 0, 1, false, at(0, 1), image("g", "f"), image("f"))
	wantBind(t, 2, 0, false, at(1, 1), image("g"), image("f hidden", "f"), image("f"))
	wantBind(t, 1, 0, false, at(1, 0), image("f hidden"), image("f"), image("f"))
	wantBind(t, 1, 0, false, at(0, 0), image("f protected"), image("f"))
	wantBind(t, 1, 0, false, at(1, 0), image("f ref"), image("f weak"))
	wantBind(t, 1, 0, false, at(0, 0), image("f weak"), image("f"))
	wantBind(t, 0, 2, false, at(0, 1), image("g", "f", "f"))
}

// P14.4: with its version, an open definition denotes one of the same version, or one of an image without versions.
func TestBindOfVersions(t *testing.T) {
	versioned := image("f@V1", "f@@V2")
	wantBind(t, 1, 0, false, at(0, 0), versioned, versioned)
	wantBind(t, 1, 1, false, at(0, 1), versioned, versioned)
	wantBind(t, 1, 0, false, at(1, 0), image("f@V2"), versioned)
	wantBind(t, 1, 1, false, at(0, 0), image("f@V2"), versioned)
	wantBind(t, 1, 0, false, at(1, 0), image("f@@V3"), versioned)
	wantBind(t, 1, 1, false, at(1, 1), image("f@@V3"), versioned)
	wantBind(t, 1, 0, false, at(0, 1), image("g", "f"), versioned)
	wantBind(t, 1, 1, false, at(0, 1), image("g", "f"), versioned)
	wantBind(t, 1, 0, false, at(0, 1), versioned, image("f"))
	wantBind(t, 1, 0, false, at(1, 0), image("f@V1"), image("f"))
	wantBind(t, 0, 0, true, at(2, 0), versioned, image("f@@V2"), image("f@@V1"))
	wantBind(t, 0, 1, true, at(1, 0), versioned, image("f@@V2"), image("f@@V1"))
}

// P14.4: a reference denotes the first definition that it matches, in its own image, too.
func TestBindOfReferences(t *testing.T) {
	wantBind(t, 1, 0, false, at(0, 0), image("f"), image("f ref"), image("f"))
	wantBind(t, 1, 0, false, at(2, 1), image("f hidden"), image("f ref"), image("g", "f"))
	wantBind(t, 0, 0, false, at(0, 1), image("f ref", "f"), image("f"))
	wantBind(t, 0, 0, false, at(1, 1), image("f@V2 ref"), image("f@V1", "f@@V2"))
	wantBind(t, 0, 0, false, at(1, 1), image("f ref"), image("f@V1", "f@@V2"))
	wantBind(t, 0, 0, false, at(1, 0), image("f@V1 ref"), image("f@V1", "f@@V2"))
	wantBind(t, 0, 1, false, at(1, 0), image("g ref", "h ref"), image("h"), image("g"))
	wantBind(t, 0, 0, false, at(2, 0), image("g ref", "h ref"), image("h"), image("g"))
}

// P14.4: what is missing is an error, but not for a weak symbol; what is there is found for a weak one, too.
func TestBindOfMissing(t *testing.T) {
	for _, copied := range []bool{false, true} {
		for _, r := range []string{"f ref", "f@V ref", "f ref var", "f@V ref tls"} {
			for _, others := range [][]api.Image{nil, {image()}, {image("g"), image("f hidden")}, {image("f@V9"), image("f ref", "f ref weak")}, {bare("f")}} {
				wantNoBind(t, 0, 0, copied, api.ErrMissing, append([]api.Image{image(r)}, others...)...)
				wantNoBind(t, len(others), 1, copied, api.ErrMissing, append(slices.Clone(others), image("h", r))...)
				wantNoBind(t, 0, 0, copied, api.OK, append([]api.Image{image(r + " weak")}, others...)...)
				wantNoBind(t, len(others), 1, copied, api.OK, append(slices.Clone(others), image("h", r+" weak"))...)
			}
			wantBind(t, 0, 0, copied, at(2, 1), image(r+" weak"), image("g"), image("g", "f"))
			wantBind(t, 1, 0, copied, at(0, 0), image("f"), image(r+" weak"), image("f"))
		}
	}
}

// P14.4: weak counts in the symbol that is bound alone, not in others of its name, and not in what is found.
func TestBindOfWeakOthers(t *testing.T) {
	im := image("f ref weak", "f ref", "g ref weak", "f@V ref", "f@V ref weak")
	for k, s := range im.Syms {
		want := api.ErrMissing
		if s.Weak {
			want = api.OK
		}
		wantNoBind(t, 0, k, false, want, im)
		wantNoBind(t, 1, k, true, want, image("x"), im)
		found := slices.Index([]string{"f", "g"}, s.Name)
		wantBind(t, 0, k, false, at(1, found), im, image("f weak", "g weak"))
	}
}

// P14.4: what is copied denotes another image's definition, even if it is its own, ahead of the image and behind it.
func TestBindOfCopied(t *testing.T) {
	for _, s := range []string{"v var", "v var protected", "v var hidden", "v var weak", "v var weak hidden", "v tls", "v@@V var", "v@V var protected", "v@V ref var", "v@V ref var weak"} {
		wantBind(t, 0, 0, true, at(1, 0), image(s), image("v var"), image("v var"))
		wantBind(t, 0, 1, true, at(2, 1), image("v", s), image("v hidden"), image("w", "v"))
		wantBind(t, 1, 0, true, at(0, 1), image("w", "v var"), image(s), image("v var"))
		wantBind(t, 1, 0, true, at(2, 0), image("w"), image(s), image("v protected"))
		wantBind(t, 1, 0, true, at(2, 0), image("v@V9 hidden"), image(s), image("v"))
	}
}

// P14.4: a copied symbol that no other image defines is missing, although its own image defines it.
func TestBindOfCopiedAlone(t *testing.T) {
	for _, s := range []string{"v var", "v var protected", "v var hidden", "v@@V tls", "v@V", "v ref"} {
		for i := range 3 {
			images := []api.Image{image("w"), image("v hidden"), image("w@@V")}
			images[i] = image("v", s, "v weak")
			wantNoBind(t, i, 1, true, api.ErrMissing, images...)
			images[i] = image("v", s+" weak", "v")
			wantNoBind(t, i, 1, true, api.OK, images...)
		}
	}
}

// P14.4: a symbol that is not defined is not its own, whatever its Vis is, so that it is looked up.
func TestBindOfWrongSymbols(t *testing.T) {
	for _, vis := range []api.Vis{api.Protected, api.Hidden, 3, -1} {
		s := ref("f")
		s.Vis = vis
		wantBind(t, 1, 0, false, at(0, 0), image("f"), made(s))
		wantNoBind(t, 1, 0, false, api.ErrMissing, image("g"), made(s))
		s.Weak = true
		wantNoBind(t, 1, 0, false, api.OK, image("g"), made(s))
		s.Defined = true
		wantBind(t, 1, 0, false, at(1, 0), image("f"), made(s))
	}
	// An old definition without a version is found by no reference that has none either.
	s := sym("f")
	s.Old = true
	wantNoBind(t, 0, 0, false, api.ErrMissing, made(s))
	wantBind(t, 0, 0, false, at(1, 1), made(s), image("g", "f"))
	wantBind(t, 0, 0, false, at(0, 0), made(api.Symbol{Defined: true}))
	wantNoBind(t, 0, 0, false, api.ErrMissing, made(api.Symbol{}))
}

// P14.4: kinds make no difference to what is found.
func TestBindOfOtherKinds(t *testing.T) {
	for _, kind := range []api.SymKind{0, api.Func, api.Var, api.TlsVar, 7} {
		for _, text := range []string{"f", "f var", "f tls"} {
			s := ref("f")
			s.Kind = kind
			wantBind(t, 0, 0, false, at(1, 0), made(s), image(text))
			s.Defined = true
			wantBind(t, 1, 0, false, at(0, 0), image(text), made(s))
		}
	}
}

// P14.4: what is not its own is looked up by the tables, as Look does, even if that does not find the symbol itself.
func TestBindByWrongTables(t *testing.T) {
	wantNoBind(t, 0, 0, false, api.ErrMissing, bare("f"))
	wantNoBind(t, 0, 0, false, api.OK, bare("f weak"))
	wantBind(t, 0, 0, false, at(1, 0), bare("f"), image("f"))
	wantBind(t, 1, 0, false, at(1, 0), bare("f"), image("f"))
	wantBind(t, 1, 0, true, at(2, 1), bare("f"), image("f"), image("g", "f"))
	reversed := withTable(image("f", "f"), oneBucket(1, 0))
	wantBind(t, 0, 0, false, at(0, 1), reversed)
	wantBind(t, 1, 0, true, at(0, 1), reversed, image("f"))
}

// P14.4: each symbol of each of many images.
func TestBindInManyImages(t *testing.T) {
	images := manyImages(64)
	for i := range images {
		wantBind(t, i, 0, false, at(i, 0), images...)
		wantBind(t, i, 1, false, at(0, 1), images...)
		wantNoBind(t, i, 0, true, api.ErrMissing, images...)
		first := 0
		if i == 0 {
			first = 1
		}
		wantBind(t, i, 1, true, at(first, 1), images...)
	}
}
