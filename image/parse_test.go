package image_test

import (
	"bytes"
	"testing"

	"clevis/api"
	"clevis/image"
)

// taker takes a form apart, the other way round than a maker; it panics with noForm where that cannot be.
type taker struct{ b []byte }

type noForm struct{}

func (k *taker) some(n int) []byte {
	if n > len(k.b) {
		panic(noForm{})
	}
	some := k.b[:n:n]
	k.b = k.b[n:]
	return some
}

func (k *taker) num(size int) int {
	n := uint64(0)
	for i, c := range k.some(size) {
		n += uint64(c) << (8 * i)
	}
	return int(n)
}

func (k *taker) limited(size, most int) []byte {
	n := k.num(size)
	if n > most {
		panic(noForm{})
	}
	return k.some(n)
}

func (k *taker) text() string { return string(k.limited(2, 4096)) }

func (k *taker) flag() bool {
	n := k.num(1)
	if n > 1 {
		panic(noForm{})
	}
	return n > 0
}

func (k *taker) texts() (ss []string) {
	for range k.num(1) {
		ss = append(ss, k.text())
	}
	return ss
}

func (k *taker) nums(count, size int) (ns []int) {
	for range k.num(count) {
		ns = append(ns, k.num(size))
	}
	return ns
}

func (k *taker) head(im *api.Image) {
	if k.text() != "clevis1" {
		panic(noForm{})
	}
	im.Name = k.text()
	im.Flags = api.Flags(k.num(1))
	im.Segs = make([]api.Seg, k.num(1))
	for i := range im.Segs {
		s := &im.Segs[i]
		s.At = k.num(4)
		s.Size = k.num(4)
		s.Perm = api.Perm(k.num(1))
		s.Bytes = k.limited(4, 1<<20)
	}
	im.Needed = make([]api.Need, k.num(1))
	for i := range im.Needed {
		im.Needed[i].Name = k.text()
		im.Needed[i].Versions = k.texts()
	}
	im.RunPath = k.texts()
}

func (k *taker) syms(im *api.Image) {
	im.Syms = make([]api.Symbol, k.num(2))
	for i := range im.Syms {
		s := &im.Syms[i]
		s.Name = k.text()
		s.Version = k.text()
		s.Kind = api.SymKind(k.num(1))
		s.Vis = api.Vis(k.num(1))
		s.Old = k.flag()
		s.Weak = k.flag()
		s.Defined = k.flag()
		s.Value = k.num(8)
		s.Size = k.num(8)
	}
}

func (k *taker) table(im *api.Image) {
	im.Table.Buckets = make([][]int, k.num(2))
	for i := range im.Table.Buckets {
		im.Table.Buckets[i] = k.nums(2, 2)
	}
	im.Table.Filter.Shift = k.num(1)
	for _, n := range k.nums(1, 8) {
		im.Table.Filter.Words = append(im.Table.Filter.Words, uint64(n))
	}
}

func (k *taker) rest(im *api.Image) {
	im.Relocs = make([]api.Reloc, k.num(2))
	for i := range im.Relocs {
		r := &im.Relocs[i]
		r.Kind = api.RelocKind(k.num(1))
		r.At = k.num(8)
		r.Sym = k.num(8)
		r.Add = k.num(8)
	}
	im.Slots = make([]api.Slot, k.num(2))
	for i := range im.Slots {
		s := &im.Slots[i]
		s.At = k.num(4)
		s.Sym = k.num(4)
		s.Stub = k.num(4)
	}
	im.Init = k.nums(1, 4)
	im.Fini = k.nums(1, 4)
	im.TlsSize = k.num(2)
	im.Tls = k.limited(4, 1<<20)
}

// parsed returns the image of which the bytes are exactly the form, and whether there is one.
func parsed(b []byte) (im api.Image, isForm bool) {
	defer func() {
		if p := recover(); p != nil {
			if p != (noForm{}) {
				panic(p)
			}
			im, isForm = api.Image{}, false
		}
	}()
	k := &taker{b: b}
	k.head(&im)
	k.syms(&im)
	k.table(&im)
	k.rest(&im)
	if len(k.b) > 0 {
		panic(noForm{})
	}
	return plain(im), true
}

// wantParsed wants of Decode what the image that was parsed otherwise says, and the same bytes again.
func wantParsed(t *testing.T, b []byte, im api.Image, isForm bool) {
	t.Helper()
	if !isForm {
		wantDecode(t, "no form", b, api.Image{}, api.ErrImageForm)
		return
	}
	want := mayOf(im)
	if want != api.OK {
		wantDecode(t, "a form", b, api.Image{}, want)
		return
	}
	wantDecode(t, "a form", b, im, api.OK)
	again, e := image.Decode(b)
	if e != api.OK {
		return
	}
	if got, e := image.Encode(again); e != api.OK || !bytes.Equal(got, b) {
		t.Errorf("Encode of Decode is %q and %d, want %q", got, e, b)
	}
}
