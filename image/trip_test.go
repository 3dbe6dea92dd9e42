package image_test

import (
	"bytes"
	"math/rand/v2"
	"reflect"
	"slices"
	"strconv"
	"testing"

	"clevis/api"
	"clevis/image"
)

// greatest has as many of everything as may be.
func greatest() api.Image {
	im := api.Image{
		Name:    long(64),
		Flags:   15,
		Needed:  slices.Repeat([]api.Need{{Name: long(200), Versions: slices.Repeat([]string{long(64)}, 16)}}, 16),
		RunPath: slices.Repeat([]string{long(200)}, 16),
		Init:    slices.Repeat([]int{8184}, 8),
		Fini:    slices.Repeat([]int{65528}, 8),
		Tls:     bytes.Repeat([]byte{5}, 4096),
		TlsSize: 4096,
	}
	for i := range 8 {
		im.Segs = append(im.Segs, api.Seg{At: 8192 * i, Size: 8192, Perm: 7, Bytes: bytes.Repeat([]byte{byte(i)}, 8192)})
	}
	for i := range 512 {
		im.Syms = append(im.Syms, api.Symbol{Name: long(60) + strconv.Itoa(i), Version: long(64), Old: true, Kind: api.Func, Weak: true, Vis: api.Protected, Defined: true, Value: 65535, Size: 1})
		im.Relocs = append(im.Relocs, api.Reloc{At: 16384 + 8*i, Kind: api.Abs, Sym: i, Add: 1 << 32})
	}
	for i := range 128 {
		im.Slots = append(im.Slots, api.Slot{At: 64512 + 8*i, Sym: 511 - i, Stub: 65528})
	}
	return tabled(im)
}

// P9.2: Decode returns the image that Encode was given, and Encode the bytes that Decode was given.
func TestTrips(t *testing.T) {
	for what, im := range map[string]api.Image{
		"smallest": smallest(), "full": full(), "some": someImage(), "copying": copying(56), "slotted": slotted(api.Slot{At: 64}),
		"greatest": greatest(), "symbols": withSyms(fullSyms()[symE], fullSyms()[symU]),
	} {
		b, e := image.Encode(im)
		if e != api.OK {
			t.Fatalf("%s: Encode is %d", what, e)
		}
		wantDecode(t, what, b, im, api.OK)
		got, e := image.Decode(b)
		if e != api.OK {
			t.Fatalf("%s: Decode is %d", what, e)
		}
		again, e := image.Encode(got)
		if e != api.OK || !bytes.Equal(again, b) {
			t.Errorf("%s: Encode of Decode is %d bytes and %d, want %d", what, len(again), e, len(b))
		}
		wantImage(t, what, got, api.OK)
	}
}

// P9.2, W5: an empty list has the same bytes as none.
func TestEmptyLists(t *testing.T) {
	im := smallest()
	im.Segs[0].Bytes, im.Needed, im.RunPath, im.Syms = []byte{}, []api.Need{}, []string{}, []api.Symbol{}
	im.Relocs, im.Slots, im.Init, im.Fini, im.Tls = []api.Reloc{}, []api.Slot{}, []int{}, []int{}, []byte{}
	im.Table.Buckets[0] = []int{}
	if b, e := image.Encode(im); e != api.OK || string(b) != smallestForm {
		t.Errorf("Encode is %q and %d", b, e)
	}
	im = api.Image{Segs: []api.Seg{}, Syms: []api.Symbol{}}
	wantImage(t, "no segments", im, api.ErrImageSegs)
}

// spans collects the memory of all lists of a value, with what is spare.
func spans(v reflect.Value, all [][2]uintptr) [][2]uintptr {
	switch v.Kind() {
	case reflect.Struct:
		for i := range v.NumField() {
			all = spans(v.Field(i), all)
		}
	case reflect.Slice:
		if v.Cap() > 0 {
			all = append(all, [2]uintptr{v.Pointer(), v.Pointer() + uintptr(v.Cap())*v.Type().Elem().Size()})
		}
		for i := range v.Len() {
			all = spans(v.Index(i), all)
		}
	}
	return all
}

func wantApart(t *testing.T, what string, values ...any) {
	t.Helper()
	var all [][2]uintptr
	for _, v := range values {
		all = spans(reflect.ValueOf(v), all)
	}
	for i, one := range all {
		for _, other := range all[:i] {
			if one[0] < other[1] && other[0] < one[1] {
				t.Fatalf("%s: two lists share memory", what)
			}
		}
	}
}

// withSpare is a copy in which what was spare is there.
func withSpare(v reflect.Value) reflect.Value {
	c := reflect.New(v.Type()).Elem()
	switch v.Kind() {
	case reflect.Slice:
		c = reflect.MakeSlice(v.Type(), v.Cap(), v.Cap())
		for i := range v.Cap() {
			c.Index(i).Set(withSpare(v.Slice(0, v.Cap()).Index(i)))
		}
	case reflect.Struct:
		for i := range v.NumField() {
			c.Field(i).Set(withSpare(v.Field(i)))
		}
	default:
		c.Set(v)
	}
	return c
}

// W6: neither the image nor the bytes are changed or kept, and no two lists of a result share memory.
func TestMemory(t *testing.T) {
	for _, im := range []api.Image{roomy(smallest()), roomy(full()), roomy(someImage()), roomy(changed(func(im *api.Image) { im.Fini[0] = 128 }))} {
		before := withSpare(reflect.ValueOf(im)).Interface()
		want := image.May(im)
		b, _ := image.Encode(im)
		if !reflect.DeepEqual(withSpare(reflect.ValueOf(im)).Interface(), before) {
			t.Fatal("the image was changed")
		}
		wantApart(t, "Encode", im, b)
		form := append(mustForm(t, im), 1, 2, 3)
		kept := slices.Clone(form)
		form = form[:len(form)-3]
		got, e := image.Decode(form)
		if e != want || !bytes.Equal(form[:cap(form)][:len(kept)], kept) {
			t.Fatalf("Decode is %d, or the bytes were changed", e)
		}
		wantApart(t, "Decode", got, form)
		clear(form)
		if e == api.OK && !same(got, im) {
			t.Fatal("the image changes with the bytes")
		}
		once, _ := image.Decode(kept[:len(form)])
		wantApart(t, "Decode twice", got, once)
	}
}

// W2: the same calls return the same results, whatever was called between.
func TestCallsDependOnNothingElse(t *testing.T) {
	for range 3 {
		wantImage(t, "full", full(), api.OK)
		wantImage(t, "nothing", api.Image{}, api.ErrImageSegs)
		wantDecode(t, "no form", []byte(smallestForm[1:]), api.Image{}, api.ErrImageForm)
		wantDecode(t, "smallest", []byte(smallestForm), smallest(), api.OK)
	}
}

// P9.1, P9.2: bytes of any kind are those of the image that they yield, or refused; changes of images of any kind are told by the document's conditions.
func FuzzForms(f *testing.F) {
	for _, im := range []api.Image{smallest(), full(), someImage(), copying(16), {}} {
		form, _ := formOf(im)
		f.Add(form, uint64(1))
	}
	f.Fuzz(func(t *testing.T, b []byte, seed uint64) {
		im, isForm := parsed(b)
		wantParsed(t, b, im, isForm)
		r := rand.New(rand.NewPCG(seed, 0))
		mutate(r, pick(r, leaves(reflect.ValueOf(&im).Elem(), nil)...))
		wantImage(t, "a changed image", im, mayOf(im))
	})
}
