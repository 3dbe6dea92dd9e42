package image_test

import (
	"strings"
	"testing"

	"clevis/api"
)

// breaks are changes, each of which makes one part wrong, and no other, by the order of the parts.
func breaks() []try {
	return []try{
		{"head name", api.ErrImageHead, func(im *api.Image) { im.Name = "a b" }},
		{"head flags", api.ErrImageHead, func(im *api.Image) { im.Flags |= 16 }},
		{"head needed", api.ErrImageHead, func(im *api.Image) { im.Needed[1].Name = "" }},
		{"head versions", api.ErrImageHead, func(im *api.Image) { im.Needed[0].Versions[1] = "" }},
		{"head run path", api.ErrImageHead, func(im *api.Image) { im.RunPath[0] = long(201) }},
		{"segments' permission", api.ErrImageSegs, func(im *api.Image) { im.Segs[2].Perm |= 8 }},
		{"segments' bytes", api.ErrImageSegs, func(im *api.Image) { im.Segs[1].Bytes = make([]byte, 257) }},
		{"segments' end", api.ErrImageSegs, func(im *api.Image) { im.Segs[3].Size = 65 }},
		{"segments' overlap", api.ErrImageSegs, func(im *api.Image) { im.Segs[0].Size = 129 }},
		{"template", api.ErrImageTls, func(im *api.Image) { im.Tls = make([]byte, 25) }},
		{"block", api.ErrImageTls, func(im *api.Image) { im.TlsSize = 4097 }},
		{"symbol", api.ErrImageSyms, func(im *api.Image) { im.Syms[symW].Size = 1 }},
		{"symbol's place", api.ErrImageSyms, func(im *api.Image) { im.Syms[symEnd].Value++ }},
		{"symbol's block", api.ErrImageSyms, func(im *api.Image) { im.Syms[symT].Value++ }},
		{"symbols' names", api.ErrImageSyms, func(im *api.Image) { im.Syms[symH].Name = "v" }},
		{"table's buckets", api.ErrImageTable, func(im *api.Image) { im.Table.Buckets = nil }},
		{"table's filter", api.ErrImageTable, func(im *api.Image) { im.Table.Filter.Shift = 0 }},
		{"relocation's kind", api.ErrImageRelocs, func(im *api.Image) { im.Relocs[0].Kind = 8 }},
		{"relocation's symbol", api.ErrImageRelocs, func(im *api.Image) { im.Relocs[4].Sym = symU }},
		{"relocation's number", api.ErrImageRelocs, func(im *api.Image) { im.Relocs[5].Add = 1 }},
		{"relocation's place", api.ErrImageRelocs, func(im *api.Image) { im.Relocs[9].At = 461 }},
		{"relocations' order", api.ErrImageRelocs, func(im *api.Image) { im.Relocs[8].At = 191 }},
		{"slot's symbol", api.ErrImageSlots, func(im *api.Image) { im.Slots[2].Sym = symV }},
		{"slot's stub", api.ErrImageSlots, func(im *api.Image) { im.Slots[0].Stub = 121 }},
		{"slots' order", api.ErrImageSlots, func(im *api.Image) { im.Slots[1].At = 207 }},
		{"slot in a relocation", api.ErrImageSlots, func(im *api.Image) { im.Slots[0].At = 199 }},
		{"Init", api.ErrImageRuns, func(im *api.Image) { im.Init[2] = 128 }},
		{"Fini", api.ErrImageRuns, func(im *api.Image) { im.Fini[0] = 65529 }},
	}
}

// partsInOrder are the errors in the order of the document's parts.
func partsInOrder() []api.Errno {
	return []api.Errno{
		api.ErrImageHead, api.ErrImageSegs, api.ErrImageTls, api.ErrImageSyms,
		api.ErrImageTable, api.ErrImageRelocs, api.ErrImageSlots, api.ErrImageRuns,
	}
}

// firstPart is the error of the first of the parts that are broken.
func firstPart(broken ...try) api.Errno {
	for _, e := range partsInOrder() {
		for _, one := range broken {
			if one.want == e {
				return e
			}
		}
	}
	return api.OK
}

func wantBroken(t *testing.T, broken ...try) {
	t.Helper()
	im := full()
	var whats []string
	for _, one := range broken {
		one.change(&im)
		whats = append(whats, one.what)
	}
	wantImage(t, strings.Join(whats, " and "), im, firstPart(broken...))
}

// P9.1: the first part that is wrong gives the error: for one break, for each two, in either order, and for more and more.
func TestOrderOfParts(t *testing.T) {
	all := breaks()
	for i, one := range all {
		wantBroken(t, one)
		for j, other := range all {
			if i != j {
				wantBroken(t, one, other)
			}
		}
		wantBroken(t, all[i:]...)
	}
}

// P9.1: numbers that have no form are wrong where they stand, and the part ahead of them comes first.
func TestOrderWithoutForm(t *testing.T) {
	for _, one := range breaks() {
		im := full()
		im.Fini = []int{-1}
		one.change(&im)
		want := one.want
		if one.what == "Fini" || one.what == "Init" {
			want = api.ErrImageRuns
		}
		wantImage(t, one.what+" and a Fini without a form", im, want)
	}
}
