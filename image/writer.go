package image

import (
	"clevis/api"
	"clevis/cursor"
)

// writer is a cursor's writer that knows the parts of an image.
type writer struct {
	*cursor.Writer
}

func (w *writer) image(im api.Image) {
	w.Text(mark, im.Name)
	w.Num(1, int(im.Flags))
	writeList(w, 1, w.seg, im.Segs...)
	writeList(w, 1, w.need, im.Needed...)
	w.texts(im.RunPath...)
	writeList(w, 2, w.symbol, im.Syms...)
	w.table(im.Table)
	writeList(w, 2, w.reloc, im.Relocs...)
	writeList(w, 2, w.slot, im.Slots...)
	w.runs(im.Init...)
	w.runs(im.Fini...)
	w.Num(2, im.TlsSize)
	w.Block(im.Tls)
}

func (w *writer) seg(s api.Seg) {
	w.Num(4, s.At, s.Size)
	w.Num(1, int(s.Perm))
	w.Block(s.Bytes)
}

func (w *writer) need(n api.Need) {
	w.Text(n.Name)
	w.texts(n.Versions...)
}

func (w *writer) texts(ss ...string) {
	w.Num(1, len(ss))
	w.Text(ss...)
}

func (w *writer) symbol(s api.Symbol) {
	w.Text(s.Name, s.Version)
	w.Num(1, int(s.Kind), int(s.Vis), bit(s.Old), bit(s.Weak), bit(s.Defined))
	w.Num(8, s.Value, s.Size)
}

func (w *writer) table(t api.Table) {
	writeList(w, 2, w.bucket, t.Buckets...)
	w.Num(1, t.Filter.Shift)
	writeList(w, 1, w.word, t.Filter.Words...)
}

func (w *writer) bucket(indices []int) {
	w.Num(2, len(indices))
	w.Num(2, indices...)
}

func (w *writer) word(word uint64) {
	w.Num(8, int(word))
}

func (w *writer) reloc(r api.Reloc) {
	w.Num(1, int(r.Kind))
	w.Num(8, r.At, r.Sym, r.Add)
}

func (w *writer) slot(s api.Slot) {
	w.Num(4, s.At, s.Sym, s.Stub)
}

func (w *writer) runs(addresses ...int) {
	w.Num(1, len(addresses))
	w.Num(4, addresses...)
}

func bit(is bool) int {
	if is {
		return 1
	}
	return 0
}

// writeList writes the number of the items, in a number of size bytes, and then each item.
func writeList[T any](w *writer, size int, write func(T), items ...T) {
	w.Num(size, len(items))
	for _, item := range items {
		write(item)
	}
}
