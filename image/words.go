package image

import (
	"clevis/api"
	"slices"
)

const (
	wordSize = 8       // bytes of a word
	mostAdd  = 1 << 32 // of a relocation, with either sign
	noSym    = -1      // the Sym of a relocation without a symbol
)

func areRelocs(im api.Image) bool {
	is := func(r api.Reloc) bool { return isReloc(im, r) }
	wordOf := func(r api.Reloc) (int, int) { return r.At, r.At + sizeOf(im, r) }
	return len(im.Relocs) <= api.MaxRelocs && areApart(is, wordOf, im.Relocs...)
}

func isReloc(im api.Image, r api.Reloc) bool {
	return isWithin(r.Add, -mostAdd, mostAdd) && fitsKind(im, r) && has(im, r.At, sizeOf(im, r), permOf(r))
}

// fitsKind reports whether the relocation has the symbol and the number that its kind asks for.
func fitsKind(im api.Image, r api.Reloc) bool {
	if r.Kind == api.Base {
		return r.Sym == noSym && isWithin(r.Add, 0, api.MaxImage)
	}
	if !isIndex(im, r.Sym) {
		return false
	}
	s := im.Syms[r.Sym]
	switch r.Kind {
	case api.Abs, api.Pc:
		return s.Kind != api.TlsVar
	case api.Size:
		return r.Add == 0
	case api.TlsMod:
		return s.Kind == api.TlsVar && r.Add == 0
	case api.TlsOff, api.TlsTp:
		return s.Kind == api.TlsVar
	case api.Copy:
		return im.Flags&api.Program != 0 && isCopied(s, r.At) && r.Add == 0
	}
	return false
}

// isCopied reports whether the symbol is a variable at an address to which a copy can be made.
func isCopied(s api.Symbol, at int) bool {
	return s.Kind == api.Var && s.Defined && s.Size >= 1 && s.Value == at
}

// sizeOf returns how many bytes a relocation of a kind that it fits fills in.
func sizeOf(im api.Image, r api.Reloc) int {
	if r.Kind == api.Copy {
		return im.Syms[r.Sym].Size
	}
	return wordSize
}

func permOf(r api.Reloc) api.Perm {
	if r.Kind == api.Copy {
		return api.Write
	}
	return anyPerm
}

func areSlots(im api.Image) bool {
	is := func(s api.Slot) bool { return isSlot(im, s) }
	wordOf := func(s api.Slot) (int, int) { return s.At, s.At + wordSize }
	return len(im.Slots) <= api.MaxSlots && areApart(is, wordOf, im.Slots...)
}

func isSlot(im api.Image, s api.Slot) bool {
	isCall := isIndex(im, s.Sym) && im.Syms[s.Sym].Kind == api.Func && has(im, s.Stub, api.InstSize, api.Exec)
	return isCall && has(im, s.At, wordSize, anyPerm) && !isRelocated(im, s.At)
}

// isRelocated reports whether the word at an address overlaps that of a relocation.
func isRelocated(im api.Image, at int) bool {
	return slices.ContainsFunc(im.Relocs, func(r api.Reloc) bool {
		return r.At < at+wordSize && at < r.At+sizeOf(im, r)
	})
}

func isIndex(im api.Image, sym int) bool {
	return isWithin(sym, 0, len(im.Syms)-1)
}
