package image_test

import (
	"bytes"
	"reflect"
	"strings"
	"testing"

	"clevis/api"
	"clevis/image"
	"clevis/table"
)

// smallest is the least that is valid: one byte, and a table of no symbols.
func smallest() api.Image {
	return api.Image{
		Segs:  []api.Seg{{Size: 1, Perm: 5}},
		Table: api.Table{Buckets: [][]int{nil}, Filter: api.Filter{Words: []uint64{0}, Shift: 6}},
	}
}

// What the symbols of a full image are.
const (
	symF    = iota // a function
	symOld         // an old one with a version
	symNew         // of the same name, not old
	symV           // a variable of 16 bytes at 136
	symH           // a hidden one
	symEnd         // one without bytes, at the end of its segment
	symT           // a thread-local variable
	symU           // one that is asked for
	symE           // a function that is asked for
	symW           // a variable that is asked for
	symLast        // a variable of 8 bytes at 376
)

func fullSyms() []api.Symbol {
	return []api.Symbol{
		{Name: "f", Kind: api.Func, Defined: true, Size: 32},
		{Name: "g", Version: "V1", Old: true, Kind: api.Func, Defined: true, Value: 32, Size: 8},
		{Name: "g", Version: "V2", Kind: api.Func, Defined: true, Weak: true, Value: 40, Size: 8},
		{Name: "v", Kind: api.Var, Vis: api.Protected, Defined: true, Value: 136, Size: 16},
		{Name: "h", Kind: api.Var, Vis: api.Hidden, Defined: true, Value: 160, Size: 8},
		{Name: "end", Kind: api.Var, Defined: true, Value: 384},
		{Name: "t", Kind: api.TlsVar, Defined: true, Value: 16, Size: 8},
		{Name: "u", Kind: api.TlsVar, Weak: true},
		{Name: "e", Version: "V9", Kind: api.Func},
		{Name: "w", Kind: api.Var},
		{Name: "last", Kind: api.Var, Defined: true, Value: 376, Size: 8},
	}
}

// fullRelocs are one of each kind, of which most touch the next one; that at 96 and that at 460 have no Write.
func fullRelocs() []api.Reloc {
	return []api.Reloc{
		{At: 96, Kind: api.Abs, Sym: symF, Add: 3},
		{At: 128, Kind: api.Base, Sym: -1, Add: 65536},
		{At: 136, Kind: api.Copy, Sym: symV},
		{At: 152, Kind: api.Abs, Sym: symE, Add: -1 << 32},
		{At: 160, Kind: api.Pc, Sym: symW, Add: 1 << 32},
		{At: 168, Kind: api.Size, Sym: symU},
		{At: 176, Kind: api.TlsMod, Sym: symT},
		{At: 184, Kind: api.TlsOff, Sym: symU, Add: 5},
		{At: 192, Kind: api.TlsTp, Sym: symT, Add: -8},
		{At: 460, Kind: api.Pc, Sym: symOld, Add: -1},
	}
}

// full has several of everything: code at 0, words from 128 to 384, words to read from 448 on, a gap, and code at the end of the addresses.
func full() api.Image {
	im := api.Image{
		Name:  "lib_full.so.1",
		Flags: api.Program | api.Now,
		Segs: []api.Seg{
			{At: 0, Size: 128, Perm: api.Read | api.Exec, Bytes: bytes.Repeat([]byte{7, 0, 255}, 40)},
			{At: 128, Size: 256, Perm: api.Read | api.Write, Bytes: []byte{1, 2, 3}},
			{At: 448, Size: 20, Perm: api.Read},
			{At: 65472, Size: 64, Perm: 7, Bytes: bytes.Repeat([]byte{9}, 64)},
		},
		Needed:  []api.Need{{Name: "libc", Versions: []string{"V1", "V_2.0"}}, {Name: "/lib/b"}},
		RunPath: []string{"/lib", "$ORIGIN/x y"},
		Syms:    fullSyms(),
		Relocs:  fullRelocs(),
		Slots:   []api.Slot{{At: 200, Sym: symE, Stub: 120}, {At: 208, Sym: symF}, {At: 448, Sym: symNew, Stub: 65528}},
		Init:    []int{0, 120, 0},
		Fini:    []int{65528, 1},
		Tls:     []byte{40, 0, 0, 0},
		TlsSize: 24,
	}
	return tabled(im)
}

// tabled is the image with the table of its symbols, or with none if there are too many.
func tabled(im api.Image) api.Image {
	im.Table, _ = table.Make(im.Syms...)
	return im
}

// changed is the full image with a change, and with the table that the changed symbols have.
func changed(change func(*api.Image)) api.Image {
	im := full()
	change(&im)
	return tabled(im)
}

// plain is a copy that shares nothing, with nil for each list that is empty: an empty list and none are the same.
func plain[T any](v T) T {
	return copyOf(reflect.ValueOf(v), 0).Interface().(T)
}

// roomy is a copy with a spare element of other contents behind each list.
func roomy(im api.Image) api.Image {
	return copyOf(reflect.ValueOf(im), 1).Interface().(api.Image)
}

func copyOf(v reflect.Value, spare int) reflect.Value {
	c := reflect.New(v.Type()).Elem()
	switch v.Kind() {
	case reflect.Slice:
		if v.Len()+spare == 0 {
			break
		}
		c = reflect.MakeSlice(v.Type(), v.Len()+spare, v.Len()+spare)
		for i := range v.Len() {
			c.Index(i).Set(copyOf(v.Index(i), spare))
		}
		if spare > 0 && v.Len() > 0 {
			c.Index(v.Len()).Set(copyOf(v.Index(0), spare))
		}
		c = c.Slice(0, v.Len())
	case reflect.Struct:
		for i := range v.NumField() {
			c.Field(i).Set(copyOf(v.Field(i), spare))
		}
	default:
		c.Set(v)
	}
	return c
}

func same(im, other api.Image) bool {
	return reflect.DeepEqual(plain(im), plain(other))
}

// maker makes bytes piece by piece, by the document's list, and remembers whether all of them were permitted.
type maker struct {
	b     []byte
	wrong bool
}

func (m *maker) num(size int, ns ...int) {
	for _, n := range ns {
		m.wrong = m.wrong || size < 8 && (n < 0 || n >= 1<<(8*size))
		rest := uint64(n)
		for range size {
			m.b = append(m.b, byte(rest%256))
			rest /= 256
		}
	}
}

func (m *maker) text(ss ...string) {
	for _, s := range ss {
		m.wrong = m.wrong || len(s) > 4096
		m.num(2, len(s))
		m.b = append(m.b, s...)
	}
}

func (m *maker) block(b []byte) {
	m.wrong = m.wrong || len(b) > 1<<20
	m.num(4, len(b))
	m.b = append(m.b, b...)
}

func (m *maker) flags(flags ...bool) {
	for _, flag := range flags {
		m.num(1, map[bool]int{false: 0, true: 1}[flag])
	}
}

func (m *maker) segs(im api.Image) {
	m.num(1, len(im.Segs))
	for _, s := range im.Segs {
		m.num(4, s.At, s.Size)
		m.num(1, int(s.Perm))
		m.block(s.Bytes)
	}
}

func (m *maker) needed(im api.Image) {
	m.num(1, len(im.Needed))
	for _, n := range im.Needed {
		m.text(n.Name)
		m.num(1, len(n.Versions))
		m.text(n.Versions...)
	}
	m.num(1, len(im.RunPath))
	m.text(im.RunPath...)
}

func (m *maker) syms(im api.Image) {
	m.num(2, len(im.Syms))
	for _, s := range im.Syms {
		m.text(s.Name, s.Version)
		m.num(1, int(s.Kind), int(s.Vis))
		m.flags(s.Old, s.Weak, s.Defined)
		m.num(8, s.Value, s.Size)
	}
}

func (m *maker) table(im api.Image) {
	m.num(2, len(im.Table.Buckets))
	for _, bucket := range im.Table.Buckets {
		m.num(2, len(bucket))
		m.num(2, bucket...)
	}
	m.num(1, im.Table.Filter.Shift, len(im.Table.Filter.Words))
	for _, word := range im.Table.Filter.Words {
		m.num(8, int(word))
	}
}

func (m *maker) rest(im api.Image) {
	m.num(2, len(im.Relocs))
	for _, r := range im.Relocs {
		m.num(1, int(r.Kind))
		m.num(8, r.At, r.Sym, r.Add)
	}
	m.num(2, len(im.Slots))
	for _, s := range im.Slots {
		m.num(4, s.At, s.Sym, s.Stub)
	}
	m.num(1, len(im.Init))
	m.num(4, im.Init...)
	m.num(1, len(im.Fini))
	m.num(4, im.Fini...)
	m.num(2, im.TlsSize)
	m.block(im.Tls)
}

// formOf returns the bytes of the form of an image, valid or not, and whether it has one.
func formOf(im api.Image) ([]byte, bool) {
	m := &maker{}
	m.text("clevis1", im.Name)
	m.num(1, int(im.Flags))
	m.segs(im)
	m.needed(im)
	m.syms(im)
	m.table(im)
	m.rest(im)
	return m.b, !m.wrong
}

func mustForm(t *testing.T, im api.Image) []byte {
	t.Helper()
	b, ok := formOf(im)
	if !ok {
		t.Fatalf("the image has no form: %+v", im)
	}
	return b
}

// wantImage asks all three functions about an image: what it is if it is right, and the error of the part that is not otherwise.
func wantImage(t *testing.T, what string, im api.Image, want api.Errno) {
	t.Helper()
	if e := image.May(im); e != want {
		t.Errorf("%s: May is %d, want %d", what, e, want)
	}
	form, hasForm := formOf(im)
	b, e := image.Encode(im)
	if e != want || want != api.OK && b != nil || want == api.OK && !bytes.Equal(b, form) {
		t.Errorf("%s: Encode is %d bytes and %d, want %d", what, len(b), e, want)
	}
	if hasForm {
		wantDecode(t, what, form, im, want)
	}
}

// wantDecode wants the image, or the error and no image.
func wantDecode(t *testing.T, what string, b []byte, im api.Image, want api.Errno) {
	t.Helper()
	got, e := image.Decode(b)
	if e != want {
		t.Errorf("%s: Decode is %d, want %d", what, e, want)
	}
	if want != api.OK {
		im = api.Image{}
		if !reflect.DeepEqual(got, im) {
			t.Errorf("%s: Decode has an error and an image: %+v", what, got)
		}
	}
	if !same(got, im) {
		t.Errorf("%s: Decode is\n%+v, want\n%+v", what, got, im)
	}
}

// try is a change to the full image, and what comes of it.
type try struct {
	what   string
	want   api.Errno
	change func(*api.Image)
}

func runTries(t *testing.T, tries []try) {
	t.Helper()
	for _, one := range tries {
		wantImage(t, one.what, changed(one.change), one.want)
	}
}

// worse is the error, or none if all is right.
func worse(isRight bool, e api.Errno) api.Errno {
	if isRight {
		return api.OK
	}
	return e
}

func long(n int) string { return strings.Repeat("n", n) }
