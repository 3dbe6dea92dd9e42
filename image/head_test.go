package image_test

import (
	"math"
	"slices"
	"strconv"
	"testing"

	"clevis/api"
)

// P9.1: the smallest image, the full one, and what the document's examples say.
func TestImages(t *testing.T) {
	wantImage(t, "the smallest", smallest(), api.OK)
	wantImage(t, "a full one", full(), api.OK)
	wantImage(t, "the zero image", api.Image{}, api.ErrImageSegs)
	small := smallest()
	small.Relocs = []api.Reloc{{Kind: api.Base, Sym: -1}}
	wantImage(t, "a word in one byte", small, api.ErrImageRelocs)
	small.Segs[0].Size = 8
	wantImage(t, "a word in eight bytes", small, api.OK)
}

// P9.1: the name of an image, of a needed library's version, and what is no name.
func TestNames(t *testing.T) {
	for name, isRight := range map[string]bool{
		"a": true, "lib.so_1": true, "..": true, long(64): true,
		long(65): false, "a b": false, "/lib": false, "f@V": false, "\xff": false, "\u00e9": false, "a\x00": false, long(4097): false,
	} {
		want := worse(isRight, api.ErrImageHead)
		runTries(t, []try{
			{"name " + name, want, func(im *api.Image) { im.Name = name }},
			{"version " + name, want, func(im *api.Image) { im.Needed[0].Versions[1] = name }},
			{"version of the last " + name, want, func(im *api.Image) { im.Needed[1].Versions = []string{"V", name} }},
		})
	}
	runTries(t, []try{
		{"no name", api.OK, func(im *api.Image) { im.Name = "" }},
		{"an empty version", api.ErrImageHead, func(im *api.Image) { im.Needed[0].Versions[0] = "" }},
		{"versions that are the same", api.OK, func(im *api.Image) { im.Needed[0].Versions[0] = im.Needed[0].Versions[1] }},
	})
}

// P9.1: Flags from 0 to 15. (Without Program, the full image has a Copy that it may not have.)
func TestFlags(t *testing.T) {
	for flags := range api.Flags(16) {
		want := worse(flags%2 == 1, api.ErrImageRelocs)
		wantImage(t, "flags "+strconv.Itoa(int(flags)), changed(func(im *api.Image) { im.Flags = flags }), want)
		small := smallest()
		small.Flags = flags
		wantImage(t, "flags "+strconv.Itoa(int(flags)), small, api.OK)
	}
	for _, flags := range []api.Flags{-1, -16, 16, 17, 31, 32, 128, 255, 256, 1 << 32, math.MinInt, math.MaxInt} {
		wantImage(t, "flags "+strconv.Itoa(int(flags)), changed(func(im *api.Image) { im.Flags = flags }), api.ErrImageHead)
	}
}

// P9.1: paths of 1 to 200 bytes, of any content.
func TestPaths(t *testing.T) {
	for path, isRight := range map[string]bool{
		"": false, "/": true, "x": true, "\xff": true, "\x00": true, " ": true, "a//b/../c": true,
		long(199): true, long(200): true, long(201): false, long(4096): false, long(4097): false,
		"/" + long(199): true, "/" + long(200): false,
	} {
		want := worse(isRight, api.ErrImageHead)
		runTries(t, []try{
			{"needed " + path, want, func(im *api.Image) { im.Needed[0].Name = path }},
			{"needed last " + path, want, func(im *api.Image) { im.Needed[1].Name = path }},
			{"run path " + path, want, func(im *api.Image) { im.RunPath[0] = path }},
			{"run path last " + path, want, func(im *api.Image) { im.RunPath[1] = path }},
		})
	}
}

// P9.1: at most 16 needed libraries, 16 versions of each, and 16 elements of a run path.
func TestCountsOfHead(t *testing.T) {
	for _, n := range []int{0, 1, 15, 16, 17, 18, 255, 256, 300} {
		what := strconv.Itoa(n)
		want := worse(n <= 16, api.ErrImageHead)
		runTries(t, []try{
			{what + " needed", want, func(im *api.Image) { im.Needed = slices.Repeat([]api.Need{{Name: "b"}}, n) }},
			{what + " versions", want, func(im *api.Image) { im.Needed[0].Versions = slices.Repeat([]string{"V"}, n) }},
			{what + " versions of the last", want, func(im *api.Image) { im.Needed[1].Versions = slices.Repeat([]string{"V"}, n) }},
			{what + " run paths", want, func(im *api.Image) { im.RunPath = slices.Repeat([]string{"/lib"}, n) }},
		})
	}
	runTries(t, []try{
		{"as many as may be", api.OK, func(im *api.Image) {
			im.Needed = slices.Repeat([]api.Need{{Name: long(200), Versions: slices.Repeat([]string{long(64)}, 16)}}, 16)
			im.RunPath = slices.Repeat([]string{long(200)}, 16)
		}},
	})
}
