package builder

import (
	"clevis/api"
	"clevis/code"
	"clevis/image"
	"clevis/table"
	"cmp"
	"slices"
)

// image returns the image, valid or not, and its error.
func (b *builder) image() (api.Image, api.Errno) {
	insts, codeError := code.Encode(b.instructions()...)
	t, tableError := table.Make(b.syms...)
	im := api.Image{
		Name:    b.Name,
		Flags:   b.Flags,
		Segs:    b.segs(insts, bytesOf(b.words()...)),
		Needed:  cloneNeeded(b.Needed...),
		RunPath: slices.Clone(b.RunPath),
		Syms:    b.syms,
		Table:   t,
		Relocs:  b.relocs(),
		Slots:   b.slots(),
		Init:    b.runs(b.Init...),
		Fini:    b.runs(b.Fini...),
		Tls:     bytesOf(b.tlsWords()...),
		TlsSize: b.tlsEnd,
	}
	return im, cmp.Or(codeError, tableError, image.May(im))
}

func (b *builder) segs(insts, words []byte) []api.Seg {
	// A segment has one byte at least.
	segs := []api.Seg{{Size: max(len(insts), 1), Bytes: insts, Perm: api.Read | api.Exec}}
	if len(words) > 0 {
		segs = append(segs, api.Seg{At: b.cellsAt, Size: len(words), Bytes: words, Perm: api.Read | api.Write})
	}
	return segs
}

// words returns those of the second segment. The cells and slots are filled in when the image is loaded.
func (b *builder) words() []int {
	words := make([]int, len(b.cells.items)+len(b.jumps.items))
	for _, v := range b.Vars {
		if !isTls(v) {
			words = append(words, v.Words...)
		}
	}
	return words
}

func (b *builder) tlsWords() []int {
	var words []int
	for _, v := range b.Vars {
		if isTls(v) {
			words = append(words, v.Words...)
		}
	}
	return words
}

func (b *builder) relocs() []api.Reloc {
	var rs []api.Reloc
	for i, c := range b.cells.items {
		rs = append(rs, api.Reloc{At: b.cell(i), Kind: c.kind, Sym: c.sym})
	}
	for i, v := range b.Vars {
		rs = append(rs, b.relocsOf(b.symOf(i), v)...)
	}
	return rs
}

// relocsOf returns those of a variable. A thread-local one has none: it is neither copied, nor has it refs.
func (b *builder) relocsOf(sym int, v api.VarSpec) []api.Reloc {
	at := b.syms[sym].Value
	var rs []api.Reloc
	if v.Copied {
		rs = append(rs, api.Reloc{At: at, Kind: api.Copy, Sym: sym})
	}
	for _, r := range v.Refs {
		target := b.denoted[request{r.Name, r.Ver}]
		rs = append(rs, api.Reloc{At: at + wordSize*r.Word, Kind: api.Abs, Sym: target, Add: r.Add})
	}
	return rs
}

func (b *builder) slots() []api.Slot {
	var slots []api.Slot
	for k, sym := range b.jumps.items {
		slots = append(slots, api.Slot{At: b.slot(k), Sym: sym, Stub: b.bind(k)})
	}
	return slots
}

// runs returns where the functions are that have the names.
func (b *builder) runs(names ...string) []int {
	var runs []int
	for _, name := range names {
		runs = append(runs, b.syms[b.denoted[request{name: name}]].Value)
	}
	return runs
}

func cloneNeeded(needed ...api.Need) []api.Need {
	clones := slices.Clone(needed)
	for i, n := range needed {
		clones[i].Versions = slices.Clone(n.Versions)
	}
	return clones
}

// bytesOf returns the bytes of words, the least significant ones first.
func bytesOf(words ...int) []byte {
	b := make([]byte, 0, len(words)*wordSize)
	for _, word := range words {
		for i := range wordSize {
			b = append(b, byte(word>>(8*i)))
		}
	}
	return b
}
