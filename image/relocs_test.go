package image_test

import (
	"math"
	"slices"
	"strconv"
	"testing"

	"clevis/api"
)

// relocOf is the index, among those of the full image, of one of each kind.
var relocOf = map[api.RelocKind]int{api.Base: 1, api.Copy: 2, api.Abs: 3, api.Pc: 4, api.Size: 5, api.TlsMod: 6, api.TlsOff: 7, api.TlsTp: 8}

// with is the full image with one relocation changed.
func with(kind api.RelocKind, change func(*api.Reloc)) api.Image {
	return changed(func(im *api.Image) { change(&im.Relocs[relocOf[kind]]) })
}

func kindText(kind api.RelocKind) string { return "kind " + strconv.Itoa(int(kind)) }

// P9.1: the Add of each kind: up to 2^32 with either sign, up to 65536 from 0 on, or none.
func TestAddOfRelocs(t *testing.T) {
	adds := []int{
		0, 1, -1, 8, 65535, 65536, 65537, -65536, 1<<32 - 1, 1 << 32, 1<<32 + 1, -1<<32 + 1, -1 << 32, -1<<32 - 1,
		1 << 33, -1 << 33, math.MinInt, math.MaxInt,
	}
	for kind := range relocOf {
		least, most := -1<<32, 1<<32
		switch kind {
		case api.Base:
			least, most = 0, 65536
		case api.Size, api.TlsMod, api.Copy:
			least, most = 0, 0
		}
		for _, add := range adds {
			im := with(kind, func(r *api.Reloc) { r.Add = add })
			wantImage(t, kindText(kind)+" add "+strconv.Itoa(add), im, worse(least <= add && add <= most, api.ErrImageRelocs))
		}
	}
}

// P9.1: the Sym of each kind: -1 for Base, and for others the index of a symbol of a kind that goes with it, defined or not.
func TestSymOfRelocs(t *testing.T) {
	isFunc := []int{symF, symOld, symNew, symE}
	isVar := []int{symV, symH, symEnd, symW, symLast}
	isTls := []int{symT, symU}
	rights := map[api.RelocKind][]int{
		api.Base: {-1}, api.Abs: slices.Concat(isFunc, isVar), api.Pc: slices.Concat(isFunc, isVar),
		api.Size: slices.Concat(isFunc, isVar, isTls), api.TlsMod: isTls, api.TlsOff: isTls, api.TlsTp: isTls, api.Copy: {symV},
	}
	for kind, right := range rights {
		for _, sym := range []int{-1, -2, 0, 1, 2, 3, 4, 5, 6, 7, 8, 9, 10, 11, 12, 512, 1 << 32, math.MinInt, math.MaxInt} {
			im := with(kind, func(r *api.Reloc) { r.Sym = sym })
			wantImage(t, kindText(kind)+" symbol "+strconv.Itoa(sym), im, worse(slices.Contains(right, sym), api.ErrImageRelocs))
		}
	}
	im := smallest()
	im.Segs[0].Size = 8
	for kind := range rights {
		im.Relocs = []api.Reloc{{Kind: kind}}
		wantImage(t, kindText(kind)+" without symbols", im, api.ErrImageRelocs)
	}
}

// P9.1: no other kind is valid, with or without a symbol.
func TestKindOfRelocs(t *testing.T) {
	for _, kind := range []api.RelocKind{-1, -2, 8, 9, 255, 256, 257, 1 << 32, math.MinInt, math.MaxInt} {
		for of := range relocOf {
			wantImage(t, kindText(kind), with(of, func(r *api.Reloc) { r.Kind = kind }), api.ErrImageRelocs)
			wantImage(t, kindText(kind)+" without Add", with(of, func(r *api.Reloc) { r.Kind, r.Add = kind, 0 }), api.ErrImageRelocs)
		}
	}
}

// P9.1: the eight bytes of a word are in one segment, of whatever permission.
func TestWordsAreInTheImage(t *testing.T) {
	for _, perm := range []api.Perm{0, 1, 2, 3, 4, 5, 6, 7} {
		im := segmented(api.Seg{Size: 100, Perm: perm}, api.Seg{At: 128, Size: 64, Perm: perm}, api.Seg{At: 192, Size: 8, Perm: perm}, api.Seg{At: 256, Size: 7, Perm: perm}, api.Seg{At: 65472, Size: 64, Perm: perm})
		for at, isRight := range map[int]bool{
			0: true, 1: true, 91: true, 92: true, 93: false, 99: false, 100: false, 120: false, 124: false, 127: false, 128: true, 184: true,
			185: false, 188: false, 191: false, 192: true, 193: false, 200: false, 255: false, 256: false, 257: false, 65472: true, 65528: true, 65529: false,
			65535: false, 65536: false, -1: false, -8: false, 1 << 32: false, math.MinInt: false, math.MaxInt: false, math.MaxInt - 7: false, math.MaxInt - 8: false,
		} {
			im.Relocs = []api.Reloc{{At: at, Kind: api.Base, Sym: -1}}
			wantImage(t, "a word at "+strconv.Itoa(at), im, worse(isRight, api.ErrImageRelocs))
		}
	}
}

// P9.1: words are in increasing order; they may touch, but not overlap by one byte.
func TestOrderOfRelocs(t *testing.T) {
	for _, one := range []struct {
		isRight bool
		ats     []int
	}{
		{true, []int{0, 8, 16}}, {true, []int{0, 9, 200}}, {true, []int{1, 9, 17}}, {false, []int{0, 7}}, {false, []int{0, 0}}, {false, []int{8, 0}},
		{false, []int{0, 1}}, {false, []int{0, 8, 15}}, {false, []int{0, 8, 0}}, {false, []int{0, 8, 8}}, {false, []int{16, 8, 24}}, {false, []int{1, 0}}, {true, []int{0, 248}},
	} {
		im := segmented(api.Seg{Size: 256})
		for _, at := range one.ats {
			im.Relocs = append(im.Relocs, api.Reloc{At: at, Kind: api.Base, Sym: -1})
		}
		wantImage(t, "words", im, worse(one.isRight, api.ErrImageRelocs))
	}
	for _, at := range []int{151, 144, 137} {
		wantImage(t, "a word in that of a Copy", with(api.Abs, func(r *api.Reloc) { r.At = at }), api.ErrImageRelocs)
	}
	for _, at := range []int{129, 135, 136, 144} {
		wantImage(t, "a word in that of a Copy, ahead of it", with(api.Base, func(r *api.Reloc) { r.At = at }), api.ErrImageRelocs)
	}
}

// copying is a program with a variable at 64 and its Copy, and with words around it.
func copying(size int) api.Image {
	return tabled(api.Image{
		Flags: api.Program,
		Segs:  []api.Seg{{Size: 64, Perm: 5}, {At: 64, Size: 64, Perm: 3}, {At: 128, Size: 64, Perm: 7}},
		Syms:  []api.Symbol{{Name: "v", Kind: api.Var, Defined: true, Value: 64, Size: size}},
		Relocs: []api.Reloc{
			{At: 56, Kind: api.Base, Sym: -1}, {At: 64, Kind: api.Copy}, {At: 64 + size, Kind: api.Base, Sym: -1}, {At: 128, Kind: api.Base, Sym: -1},
		},
	})
}

// P9.1: a Copy has the size of its variable, at least 1.
func TestSizeOfCopy(t *testing.T) {
	for size := 1; size <= 56; size++ {
		im := copying(size)
		wantImage(t, "a Copy", im, api.OK)
		im.Relocs[2].At--
		wantImage(t, "a word in the last byte of a Copy", im, api.ErrImageRelocs)
		im = copying(size)
		im.Relocs[0].At++
		wantImage(t, "a word in the first byte of a Copy", im, api.ErrImageRelocs)
	}
	wantImage(t, "no bytes", copying(0), api.ErrImageRelocs)
	im := copying(64)
	im.Relocs = slices.Delete(im.Relocs, 2, 3)
	wantImage(t, "all bytes of a segment", im, api.OK)
	wantImage(t, "a variable in two segments", copying(65), api.ErrImageSyms)
}

// P9.1: a Copy is a program's, of its own variable, at the variable's address, with Write, and without Add.
func TestCopy(t *testing.T) {
	const wrong = api.ErrImageRelocs
	for _, one := range []try{
		{"nothing changed", api.OK, func(*api.Image) {}},
		{"all flags", api.OK, func(im *api.Image) { im.Flags = 15 }},
		{"no flags", wrong, func(im *api.Image) { im.Flags = 0 }},
		{"all flags but Program", wrong, func(im *api.Image) { im.Flags = 14 }},
		{"a hidden variable", api.OK, func(im *api.Image) { im.Syms[0].Vis = api.Hidden }},
		{"an old variable", api.OK, func(im *api.Image) { im.Syms[0].Version, im.Syms[0].Old = "V", true }},
		{"a function", wrong, func(im *api.Image) { im.Syms[0].Kind = api.Func }},
		{"a thread-local variable", wrong, func(im *api.Image) { im.Syms[0].Kind, im.TlsSize = api.TlsVar, 4096 }},
		{"a reference", wrong, func(im *api.Image) { im.Syms[0] = api.Symbol{Name: "v", Kind: api.Var} }},
		{"another value", wrong, func(im *api.Image) { im.Syms[0].Value = 72 }},
		{"another address", wrong, func(im *api.Image) { im.Relocs[1].At = 65 }},
		{"Write alone", api.OK, func(im *api.Image) { im.Segs[1].Perm = api.Write }},
		{"Write and Exec", api.OK, func(im *api.Image) { im.Segs[1].Perm = api.Write | api.Exec }},
		{"no Write", wrong, func(im *api.Image) { im.Segs[1].Perm = api.Read }},
		{"Read and Exec", wrong, func(im *api.Image) { im.Segs[1].Perm = api.Read | api.Exec }},
		{"no permission", wrong, func(im *api.Image) { im.Segs[1].Perm = 0 }},
		{"an Add", wrong, func(im *api.Image) { im.Relocs[1].Add = 1 }},
		{"a symbol that is not there", wrong, func(im *api.Image) { im.Relocs[1].Sym = 1 }},
		{"no symbol", wrong, func(im *api.Image) { im.Relocs[1].Sym = -1 }},
	} {
		im := copying(16)
		one.change(&im)
		wantImage(t, one.what, tabled(im), one.want)
	}
}

// P9.1: at most 512 relocations.
func TestCountOfRelocs(t *testing.T) {
	for _, n := range []int{0, 1, 255, 256, 511, 512, 513, 1024, 8192} {
		im := segmented(api.Seg{Size: 65536, Perm: 7})
		for i := range n {
			im.Relocs = append(im.Relocs, api.Reloc{At: 8 * i, Kind: api.Base, Sym: -1, Add: i})
		}
		wantImage(t, strconv.Itoa(n)+" relocations", im, worse(n <= 512, api.ErrImageRelocs))
	}
}
