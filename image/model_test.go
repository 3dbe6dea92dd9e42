package image_test

import (
	"math"
	"math/rand/v2"
	"reflect"
	"regexp"
	"slices"
	"testing"

	"clevis/api"
	"clevis/symver"
	"clevis/table"
)

var isName = regexp.MustCompile(`\A[a-zA-Z0-9_.]{1,64}\z`).MatchString

// mayOf takes the document's conditions one by one.
func mayOf(im api.Image) api.Errno {
	for _, part := range []struct {
		isRight func() bool
		want    api.Errno
	}{
		{func() bool { return headOf(im) }, api.ErrImageHead},
		{func() bool { return segsOf(im) }, api.ErrImageSegs},
		{func() bool { return 0 <= im.TlsSize && im.TlsSize <= 4096 && len(im.Tls) <= im.TlsSize }, api.ErrImageTls},
		{func() bool { return symsOf(im) }, api.ErrImageSyms},
		{func() bool { return table.Right(im.Table, im.Syms...) == api.OK }, api.ErrImageTable},
		{func() bool { return relocsOf(im) }, api.ErrImageRelocs},
		{func() bool { return slotsOf(im) }, api.ErrImageSlots},
		{func() bool { return runsOf(im, im.Init) && runsOf(im, im.Fini) }, api.ErrImageRuns},
	} {
		if !part.isRight() {
			return part.want
		}
	}
	return api.OK
}

func headOf(im api.Image) bool {
	ok := (im.Name == "" || isName(im.Name)) && 0 <= im.Flags && im.Flags <= 15 && len(im.Needed) <= 16 && len(im.RunPath) <= 16
	for _, n := range im.Needed {
		ok = ok && 1 <= len(n.Name) && len(n.Name) <= 200 && len(n.Versions) <= 16
		for _, v := range n.Versions {
			ok = ok && isName(v)
		}
	}
	for _, p := range im.RunPath {
		ok = ok && 1 <= len(p) && len(p) <= 200
	}
	return ok
}

func segsOf(im api.Image) bool {
	ok := 1 <= len(im.Segs) && len(im.Segs) <= 8
	least := 0
	for _, s := range im.Segs {
		if s.At < least || s.At > 65535 || s.At%64 != 0 || s.Size < 1 || s.Size > 65536 || s.At+s.Size > 65536 {
			return false
		}
		ok = ok && len(s.Bytes) <= s.Size && 0 <= s.Perm && s.Perm <= 7
		for least < s.At+s.Size {
			least += 64
		}
	}
	return ok
}

// inImage asks each segment for its first byte and its last.
func inImage(im api.Image, at, n int, perm api.Perm) bool {
	if at < 0 || at > 65536 || n > 65536 {
		return false
	}
	for _, s := range im.Segs {
		if s.Perm&perm == perm && s.At <= at && s.At+s.Size >= at+n {
			return true
		}
	}
	return false
}

func symsOf(im api.Image) bool {
	ok := len(im.Syms) <= 512
	versions := map[[2]string]int{}
	current := map[string]int{}
	for _, s := range im.Syms {
		if symver.Right(s) != api.OK {
			return false
		}
		if !s.Defined {
			continue
		}
		if s.Kind == api.TlsVar {
			ok = ok && s.Value <= im.TlsSize && s.Size <= im.TlsSize && s.Value+s.Size <= im.TlsSize
		} else {
			ok = ok && inImage(im, s.Value, s.Size, 0)
		}
		versions[[2]string{s.Name, s.Version}]++
		ok = ok && versions[[2]string{s.Name, s.Version}] == 1
		if !s.Old {
			current[s.Name]++
			ok = ok && current[s.Name] == 1
		}
	}
	return ok
}

// taken marks the bytes of words; it is false where one was marked already.
type taken map[int]bool

func (k taken) take(at, n int) bool {
	for i := range n {
		if k[at+i] {
			return false
		}
		k[at+i] = true
	}
	return true
}

func relocSize(im api.Image, r api.Reloc) int {
	if r.Kind == api.Copy {
		return im.Syms[r.Sym].Size
	}
	return 8
}

// relocOk is by the rows of the document's table.
func relocOk(im api.Image, r api.Reloc) bool {
	if r.Add < -1<<32 || r.Add > 1<<32 {
		return false
	}
	if r.Kind == api.Base {
		return r.Sym == -1 && 0 <= r.Add && r.Add <= 65536 && inImage(im, r.At, 8, 0)
	}
	if r.Sym < 0 || r.Sym >= len(im.Syms) {
		return false
	}
	s := im.Syms[r.Sym]
	isPlain := s.Kind == api.Func || s.Kind == api.Var
	isTls := s.Kind == api.TlsVar
	isHere := inImage(im, r.At, 8, 0)
	isCopy := s.Kind == api.Var && s.Defined && s.Size >= 1 && s.Value == r.At && im.Flags%2 == 1 && r.Add == 0
	return isHere && isPlain && (r.Kind == api.Abs || r.Kind == api.Pc) ||
		isHere && r.Add == 0 && r.Kind == api.Size ||
		isHere && isTls && r.Add == 0 && r.Kind == api.TlsMod ||
		isHere && isTls && (r.Kind == api.TlsOff || r.Kind == api.TlsTp) ||
		r.Kind == api.Copy && isCopy && inImage(im, r.At, s.Size, 2)
}

func relocsOf(im api.Image) bool {
	if len(im.Relocs) > 512 {
		return false
	}
	k := taken{}
	for i, r := range im.Relocs {
		if !relocOk(im, r) || i > 0 && im.Relocs[i-1].At >= r.At || !k.take(r.At, relocSize(im, r)) {
			return false
		}
	}
	return true
}

func slotsOf(im api.Image) bool {
	if len(im.Slots) > 128 {
		return false
	}
	k := taken{}
	for _, r := range im.Relocs {
		k.take(r.At, relocSize(im, r))
	}
	for i, s := range im.Slots {
		if s.Sym < 0 || s.Sym >= len(im.Syms) || im.Syms[s.Sym].Kind != api.Func || !inImage(im, s.Stub, 8, 4) || !inImage(im, s.At, 8, 0) {
			return false
		}
		if i > 0 && im.Slots[i-1].At >= s.At || !k.take(s.At, 8) {
			return false
		}
	}
	return true
}

func runsOf(im api.Image, runs []int) bool {
	if len(runs) > 8 {
		return false
	}
	return !slices.ContainsFunc(runs, func(at int) bool { return !inImage(im, at, 8, 4) })
}

// leaves collects everything in an image that can be changed.
func leaves(v reflect.Value, all []reflect.Value) []reflect.Value {
	switch v.Kind() {
	case reflect.Struct:
		for i := range v.NumField() {
			all = leaves(v.Field(i), all)
		}
	case reflect.Slice:
		all = append(all, v)
		if v.Type().Elem().Kind() == reflect.Uint8 {
			break
		}
		for i := range v.Len() {
			all = leaves(v.Index(i), all)
		}
	default:
		all = append(all, v)
	}
	return all
}

func pick[T any](r *rand.Rand, all ...T) T { return all[r.IntN(len(all))] }

// newNumber changes a number by a little, or takes another one.
func newNumber(r *rand.Rand, n int) int {
	if r.IntN(3) > 0 {
		return n + pick(r, -64, -16, -8, -8, -2, -1, -1, 1, 1, 2, 8, 8, 16, 64)
	}
	return pick(r, 0, 0, 1, 1, 2, 3, 7, 8, 15, 16, 24, 64, 96, 120, 128, 200, 255, 256, 384, 448, 4096, 4097, 65472, 65528, 65536, 65537, 1<<32-1, 1<<32, 1<<32+1, -1, -1<<32, -1<<32-1, math.MaxInt, math.MinInt)
}

// newList takes an element away, doubles one, exchanges two, or begins with one.
func newList(r *rand.Rand, v reflect.Value) {
	n := v.Len()
	if n == 0 {
		v.Set(reflect.Append(v, reflect.Zero(v.Type().Elem())))
		return
	}
	at := r.IntN(n)
	switch r.IntN(4) {
	case 0:
		v.Set(reflect.AppendSlice(v.Slice3(0, at, at), v.Slice(at+1, n)))
	case 1:
		v.Set(reflect.AppendSlice(v.Slice3(0, at, at), v.Slice(max(at-1, 0), n)))
	case 2:
		reflect.Swapper(v.Interface())(at, r.IntN(n))
	case 3:
		v.Set(reflect.Append(v.Slice3(0, n, n), v.Index(at)))
	}
}

func mutate(r *rand.Rand, v reflect.Value) {
	switch v.Kind() {
	case reflect.Bool:
		v.SetBool(!v.Bool())
	case reflect.Int:
		v.SetInt(int64(newNumber(r, int(v.Int()))))
	case reflect.Uint64:
		v.SetUint(v.Uint() ^ 1<<r.IntN(64))
	case reflect.String:
		v.SetString(pick(r, "", "f", "g", "v", "h", "t", "V1", "V2", "a b", "/lib", long(64), long(65), long(200), long(201)))
	case reflect.Slice:
		newList(r, v)
	}
}

// P9.1, P9.2: images that differ from the full one, and from some image, by a few changes, against the document's conditions.
func TestChangedImages(t *testing.T) {
	r := rand.New(rand.NewPCG(9, 1))
	counts := map[api.Errno]int{}
	for range 30000 {
		im := plain(pick(r, full(), someImage(), copying(16), slotted(api.Slot{At: 64}, api.Slot{At: 72, Sym: 1})))
		for range 1 + r.IntN(3) {
			mutate(r, pick(r, leaves(reflect.ValueOf(&im).Elem(), nil)...))
		}
		if r.IntN(2) > 0 {
			im = tabled(im)
		}
		want := mayOf(im)
		counts[want]++
		wantImage(t, "a changed image", im, want)
		if t.Failed() {
			t.Fatalf("%+v", im)
		}
	}
	for _, e := range append(partsInOrder(), api.OK) {
		if counts[e] < 100 {
			t.Errorf("too few of %d: %v", e, counts)
		}
	}
}

// P9.1, P9.2: forms of which a few bytes are changed, against those taken apart otherwise.
func TestChangedForms(t *testing.T) {
	r := rand.New(rand.NewPCG(9, 2))
	forms := [][]byte{[]byte(smallestForm), []byte(someForm), mustForm(t, full()), mustForm(t, copying(16))}
	for range 30000 {
		b := slices.Clone(pick(r, forms...))
		for range 1 + r.IntN(3) {
			at := r.IntN(len(b))
			switch r.IntN(8) {
			case 0:
				b = slices.Delete(b, at, min(len(b), at+1+r.IntN(8)))
			case 1:
				b = slices.Insert(b, at, byte(r.IntN(4)))
			case 2, 3, 4:
				b[at] += pick[byte](r, 1, 255, 8, 64)
			default:
				b[at] = byte(r.IntN(256))
			}
			if len(b) == 0 {
				b = []byte{7}
			}
		}
		im, isForm := parsed(b)
		wantParsed(t, b, im, isForm)
		if t.Failed() {
			t.Fatalf("%q", b)
		}
	}
}
