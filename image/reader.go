package image

import (
	"clevis/api"
	"clevis/cursor"
)

// reader is a cursor's reader that knows the parts of an image.
type reader struct {
	*cursor.Reader
	isWrong bool // because of pieces that can be read, but stand in no form
}

// image relies on calls within one expression being made from left to right.
func (r *reader) image() api.Image {
	r.mark()
	return api.Image{
		Name:    r.Text(),
		Flags:   api.Flags(r.Num(1)),
		Segs:    readList(r, 1, r.seg),
		Needed:  readList(r, 1, r.need),
		RunPath: r.texts(),
		Syms:    readList(r, 2, r.symbol),
		Table:   r.table(),
		Relocs:  readList(r, 2, r.reloc),
		Slots:   readList(r, 2, r.slot),
		Init:    r.runs(),
		Fini:    r.runs(),
		TlsSize: r.Num(2),
		Tls:     r.Block(),
	}
}

func (r *reader) mark() {
	if r.Text() != mark {
		r.isWrong = true
	}
}

func (r *reader) seg() api.Seg {
	return api.Seg{At: r.Num(4), Size: r.Num(4), Perm: api.Perm(r.Num(1)), Bytes: r.Block()}
}

func (r *reader) need() api.Need {
	return api.Need{Name: r.Text(), Versions: r.texts()}
}

func (r *reader) texts() []string {
	return readList(r, 1, r.Text)
}

func (r *reader) symbol() api.Symbol {
	return api.Symbol{
		Name:    r.Text(),
		Version: r.Text(),
		Kind:    api.SymKind(r.Num(1)),
		Vis:     api.Vis(r.Num(1)),
		Old:     r.bit(),
		Weak:    r.bit(),
		Defined: r.bit(),
		Value:   r.Num(8),
		Size:    r.Num(8),
	}
}

func (r *reader) bit() bool {
	n := r.Num(1)
	if n > 1 {
		r.isWrong = true
	}
	return n == 1
}

func (r *reader) table() api.Table {
	return api.Table{Buckets: readList(r, 2, r.bucket), Filter: r.filter()}
}

func (r *reader) bucket() []int {
	return readList(r, 2, func() int { return r.Num(2) })
}

func (r *reader) filter() api.Filter {
	return api.Filter{Shift: r.Num(1), Words: readList(r, 1, r.word)}
}

func (r *reader) word() uint64 {
	return uint64(r.Num(8))
}

func (r *reader) reloc() api.Reloc {
	return api.Reloc{Kind: api.RelocKind(r.Num(1)), At: r.Num(8), Sym: r.Num(8), Add: r.Num(8)}
}

func (r *reader) slot() api.Slot {
	return api.Slot{At: r.Num(4), Sym: r.Num(4), Stub: r.Num(4)}
}

func (r *reader) runs() []int {
	return readList(r, 1, func() int { return r.Num(4) })
}

// readList reads the number of the items, in a number of size bytes, and then each item, but none that is missing.
func readList[T any](r *reader, size int, read func() T) []T {
	var items []T
	for range r.Num(size) {
		item := read()
		if r.Fault() != api.OK {
			return nil
		}
		items = append(items, item)
	}
	return items
}
