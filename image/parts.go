package image

import (
	"clevis/api"
	"clevis/symver"
	"slices"
)

// Everything that a Flags, and that a Perm, may have.
const (
	allFlags = api.Program | api.NoDelete | api.Static | api.Now
	allPerms = api.Read | api.Write | api.Exec
)

// anyPerm is asked for where a range need only be there.
const anyPerm api.Perm = 0

func isHead(im api.Image) bool {
	return (im.Name == "" || symver.Name(im.Name)) && isWithin(int(im.Flags), 0, int(allFlags)) && areNeeded(im.Needed...) && areRunPath(im.RunPath...)
}

func areNeeded(needed ...api.Need) bool {
	return len(needed) <= api.MaxNeeded && areAll(isNeed, needed...)
}

func isNeed(n api.Need) bool {
	return isPath(n.Name) && len(n.Versions) <= api.MaxNeeded && areAll(symver.Name, n.Versions...)
}

func areRunPath(paths ...string) bool {
	return len(paths) <= api.MaxPaths && areAll(isPath, paths...)
}

// isPath asks for the length alone: whether it is a path at all is for those to tell who follow it.
func isPath(s string) bool {
	return isWithin(len(s), 1, api.MaxPath)
}

func areSegs(segs ...api.Seg) bool {
	pagesOf := func(s api.Seg) (int, int) { return s.At, roundUp(s.At + s.Size) }
	return isWithin(len(segs), 1, api.MaxSegs) && areApart(isSeg, pagesOf, segs...)
}

func isSeg(s api.Seg) bool {
	isPlace := isWithin(s.At, 0, api.MaxImage) && s.At%api.Page == 0 && isWithin(s.Size, 1, api.MaxImage-s.At)
	return isPlace && len(s.Bytes) <= s.Size && isWithin(int(s.Perm), 0, int(allPerms))
}

func isTls(im api.Image) bool {
	return isWithin(im.TlsSize, 0, api.MaxTls) && len(im.Tls) <= im.TlsSize
}

func areSyms(im api.Image) bool {
	if len(im.Syms) > api.MaxSyms {
		return false
	}
	for i, s := range im.Syms {
		if !isSym(im, s) || clashes(s, im.Syms[:i]...) {
			return false
		}
	}
	return true
}

func isSym(im api.Image, s api.Symbol) bool {
	switch {
	case symver.Right(s) != api.OK:
		return false
	case !s.Defined:
		return true
	case s.Kind == api.TlsVar:
		return isWithin(s.Value, 0, im.TlsSize-s.Size)
	}
	return has(im, s.Value, s.Size, anyPerm)
}

// clashes reports whether s and an earlier symbol are definitions between which a reference could not choose.
func clashes(s api.Symbol, earlier ...api.Symbol) bool {
	return slices.ContainsFunc(earlier, func(e api.Symbol) bool {
		isSameName := e.Defined && s.Defined && e.Name == s.Name
		return isSameName && (e.Version == s.Version || !e.Old && !s.Old)
	})
}

func areRuns(im api.Image, runs ...int) bool {
	return len(runs) <= api.MaxSegs && areAll(func(at int) bool { return has(im, at, api.InstSize, api.Exec) }, runs...)
}

// has reports whether n bytes at an address are in the image with the permission. It subtracts n, since adding it to an address may exceed the greatest int.
func has(im api.Image, at, n int, perm api.Perm) bool {
	return slices.ContainsFunc(im.Segs, func(s api.Seg) bool {
		return s.Perm&perm == perm && isWithin(at, s.At, s.At+s.Size-n)
	})
}

func isWithin(n, least, most int) bool {
	return least <= n && n <= most
}

func areAll[T any](is func(T) bool, items ...T) bool {
	return !slices.ContainsFunc(items, func(item T) bool { return !is(item) })
}

// areApart reports whether the items are right, and the range of each one begins where that of the one before it ends, or behind. Only the range of an item that is right is asked for.
func areApart[T any](is func(T) bool, rangeOf func(T) (int, int), items ...T) bool {
	last := 0
	for _, item := range items {
		if !is(item) {
			return false
		}
		at, end := rangeOf(item)
		if at < last {
			return false
		}
		last = end
	}
	return true
}

func roundUp(n int) int {
	return (n + api.Page - 1) / api.Page * api.Page
}
