package image_test

import (
	"bytes"
	"math"
	"slices"
	"strconv"
	"testing"

	"clevis/api"
	"clevis/image"
)

// smallestForm is written out by the document's list.
const smallestForm = "\x07\x00clevis1" + // what each form begins with
	"\x00\x00" + "\x00" + // no name, no flags
	"\x01" + "\x00\x00\x00\x00" + "\x01\x00\x00\x00" + "\x05" + "\x00\x00\x00\x00" + // one segment
	"\x00" + "\x00" + // nothing needed, no run path
	"\x00\x00" + // no symbols
	"\x01\x00" + "\x00\x00" + "\x06" + "\x01" + "\x00\x00\x00\x00\x00\x00\x00\x00" + // a bucket and a word
	"\x00\x00" + "\x00\x00" + // no relocations, no slots
	"\x00" + "\x00" + // no Init, no Fini
	"\x00\x00" + "\x00\x00\x00\x00" // no block

// someImage has something of everything, and what its form is can be read off.
func someImage() api.Image {
	return api.Image{
		Name:    "b",
		Flags:   3,
		Segs:    []api.Seg{{Size: 64, Perm: 7, Bytes: []byte{1, 2}}, {At: 65472, Size: 64, Perm: 2}},
		Needed:  []api.Need{{Name: "c", Versions: []string{"V", "W2"}}},
		RunPath: []string{"/d", "e"},
		Syms: []api.Symbol{
			{Name: "f", Version: "V", Old: true, Kind: api.Func, Vis: api.Hidden, Weak: true, Defined: true, Value: 1, Size: 2},
			{Name: "t", Kind: api.TlsVar},
		},
		Table:   api.Table{Buckets: [][]int{nil, nil}, Filter: api.Filter{Words: []uint64{math.MaxUint64, 1 << 63}, Shift: 31}},
		Relocs:  []api.Reloc{{At: 8, Kind: api.TlsTp, Sym: 1, Add: -2}},
		Slots:   []api.Slot{{At: 65528, Stub: 56}},
		Init:    []int{3, 4},
		Fini:    []int{5},
		Tls:     []byte{9},
		TlsSize: 4096,
	}
}

const someForm = "\x07\x00clevis1" +
	"\x01\x00b" + "\x03" +
	"\x02" + "\x00\x00\x00\x00" + "\x40\x00\x00\x00" + "\x07" + "\x02\x00\x00\x00\x01\x02" +
	"\xc0\xff\x00\x00" + "\x40\x00\x00\x00" + "\x02" + "\x00\x00\x00\x00" +
	"\x01" + "\x01\x00c" + "\x02" + "\x01\x00V" + "\x02\x00W2" +
	"\x02" + "\x02\x00/d" + "\x01\x00e" +
	"\x02\x00" +
	"\x01\x00f" + "\x01\x00V" + "\x01" + "\x02" + "\x01" + "\x01" + "\x01" + "\x01\x00\x00\x00\x00\x00\x00\x00" + "\x02\x00\x00\x00\x00\x00\x00\x00" +
	"\x01\x00t" + "\x00\x00" + "\x03" + "\x00" + "\x00" + "\x00" + "\x00" + "\x00\x00\x00\x00\x00\x00\x00\x00" + "\x00\x00\x00\x00\x00\x00\x00\x00" +
	"\x02\x00" + "\x00\x00" + "\x00\x00" + "\x1f" + "\x02" + "\xff\xff\xff\xff\xff\xff\xff\xff" + "\x00\x00\x00\x00\x00\x00\x00\x80" +
	"\x01\x00" + "\x05" + "\x08\x00\x00\x00\x00\x00\x00\x00" + "\x01\x00\x00\x00\x00\x00\x00\x00" + "\xfe\xff\xff\xff\xff\xff\xff\xff" +
	"\x01\x00" + "\xf8\xff\x00\x00" + "\x00\x00\x00\x00" + "\x38\x00\x00\x00" +
	"\x02" + "\x03\x00\x00\x00" + "\x04\x00\x00\x00" +
	"\x01" + "\x05\x00\x00\x00" +
	"\x00\x10" + "\x01\x00\x00\x00\x09"

// P9.1: the bytes of two images, written out.
func TestForm(t *testing.T) {
	for _, one := range []struct {
		what, form string
		im         api.Image
	}{{"the smallest", smallestForm, smallest()}, {"some image", someForm, someImage()}} {
		if b, e := image.Encode(one.im); e != api.OK || string(b) != one.form {
			t.Errorf("%s: Encode is\n%q and %d, want\n%q", one.what, b, e, one.form)
		}
		wantDecode(t, one.what, []byte(one.form), one.im, api.OK)
		wantImage(t, one.what, one.im, api.OK)
	}
}

// P9.1: bytes of which some are missing at the end, or with more behind, are no form.
func TestFormHasAnEnd(t *testing.T) {
	forms := [][]byte{[]byte(smallestForm), []byte(someForm), mustForm(t, full()), mustForm(t, api.Image{})}
	for _, form := range forms {
		for n := range len(form) {
			wantDecode(t, "the first "+strconv.Itoa(n)+" bytes", form[:n], api.Image{}, api.ErrImageForm)
		}
		for _, more := range []string{"\x00", "\x01", "\xff", "\x00\x00\x00\x00", string(form)} {
			wantDecode(t, "more bytes", append(slices.Clone(form), more...), api.Image{}, api.ErrImageForm)
		}
		wantDecode(t, "a byte ahead", append([]byte{0}, form...), api.Image{}, api.ErrImageForm)
		wantDecode(t, "without the first byte", form[1:], api.Image{}, api.ErrImageForm)
	}
	wantDecode(t, "no bytes", nil, api.Image{}, api.ErrImageForm)
	wantDecode(t, "no bytes", []byte{}, api.Image{}, api.ErrImageForm)
}

// P9.1: a form begins with its text, and with no other.
func TestFormHasItsMark(t *testing.T) {
	rest := smallestForm[9:]
	for _, mark := range []string{"", "clevis", "clevis2", "clevis10", "clevis1\x00", "Clevis1", "CLEVIS1", " clevis1", "1sivelc", "\x00\x00\x00\x00\x00\x00\x00", long(7), long(4096), long(4097)} {
		m := &maker{}
		m.text(mark)
		wantDecode(t, "the mark "+mark, append(m.b, rest...), api.Image{}, api.ErrImageForm)
	}
	wantDecode(t, "no mark", []byte(rest), api.Image{}, api.ErrImageForm)
	wantDecode(t, "the mark alone", []byte(smallestForm[:9]), api.Image{}, api.ErrImageForm)
	wantDecode(t, "the mark without its length", []byte(smallestForm[2:]), api.Image{}, api.ErrImageForm)
	for at := range 9 {
		for bit := range 8 {
			b := []byte(smallestForm)
			b[at] ^= 1 << bit
			wantDecode(t, "a bit of the mark", b, api.Image{}, api.ErrImageForm)
		}
	}
}

// P9.1: Old, Weak and Defined are 0 or 1, whatever else is wrong.
func TestFormHasFlagsOfOneBit(t *testing.T) {
	at := bytes.Index([]byte(someForm), []byte("f\x01\x00V\x01\x02")) + 6
	other := bytes.Index([]byte(someForm), []byte("t\x00\x00\x03\x00")) + 5
	for flag := range 3 {
		for _, of := range []int{at + flag, other + flag} {
			for value := 2; value < 256; value++ {
				b := []byte(someForm)
				b[of] = byte(value)
				wantDecode(t, "a flag of "+strconv.Itoa(value), b, api.Image{}, api.ErrImageForm)
			}
			b := []byte(someForm)
			b[of] = 2
			b[11] = '-'
			wantDecode(t, "a flag of 2 and a wrong name", b, api.Image{}, api.ErrImageForm)
		}
	}
	b := []byte(someForm)
	b[at+1] = 0
	im := someImage()
	im.Syms[0].Weak = false
	wantDecode(t, "not weak", b, im, api.OK)
	b[at] = 0
	im.Syms[0].Old = false
	wantDecode(t, "not old", b, im, api.OK)
	b[at+2] = 0
	wantDecode(t, "not defined", b, api.Image{}, api.ErrImageSyms)
}

// P9.1: texts of more than 4096 bytes and blocks of more than 2^20 are in no form; of so many they are, valid or not.
func TestFormHasLimits(t *testing.T) {
	for _, one := range []struct {
		what       string
		n          int
		in, beyond api.Errno
		change     func(*api.Image, int)
	}{
		{"a name", 4096, api.ErrImageHead, api.ErrImageForm, func(im *api.Image, n int) { im.Name = long(n) }},
		{"a needed one", 4096, api.ErrImageHead, api.ErrImageForm, func(im *api.Image, n int) { im.Needed[0].Name = long(n) }},
		{"a version", 4096, api.ErrImageHead, api.ErrImageForm, func(im *api.Image, n int) { im.Needed[0].Versions[0] = long(n) }},
		{"a run path", 4096, api.ErrImageHead, api.ErrImageForm, func(im *api.Image, n int) { im.RunPath[0] = long(n) }},
		{"a symbol", 4096, api.ErrImageSyms, api.ErrImageForm, func(im *api.Image, n int) { im.Syms[0].Name = long(n) }},
		{"a symbol's version", 4096, api.ErrImageSyms, api.ErrImageForm, func(im *api.Image, n int) { im.Syms[0].Version = long(n) }},
		{"a segment", 1 << 20, api.ErrImageSegs, api.ErrImageForm, func(im *api.Image, n int) { im.Segs[0].Bytes = make([]byte, n) }},
		{"a template", 1 << 20, api.ErrImageTls, api.ErrImageForm, func(im *api.Image, n int) { im.Tls = make([]byte, n) }},
		{"a name", 64, api.OK, api.ErrImageHead, func(im *api.Image, n int) { im.Name = long(n) }},
		{"a template", 4096, api.OK, api.ErrImageTls, func(im *api.Image, n int) { im.Tls = make([]byte, n) }},
	} {
		for n, want := range map[int]api.Errno{one.n: one.in, one.n + 1: one.beyond} {
			im := someImage()
			one.change(&im, n)
			form, _ := formOf(im)
			if want != api.OK {
				im = api.Image{}
			}
			wantDecode(t, one.what+" of "+strconv.Itoa(n), form, im, want)
		}
	}
}

// P9.1: counts of more than there is are no form, and take no time for what is missing.
func TestFormHasWhatItCounts(t *testing.T) {
	form := []byte(someForm)
	for at := range form {
		for _, value := range []byte{0, 1, 2, 3, 127, 128, 254, 255} {
			b := slices.Clone(form)
			b[at] = value
			im, isForm := parsed(b)
			wantParsed(t, b, im, isForm)
			if at+1 < len(b) {
				b[at+1] = value
				im, isForm = parsed(b)
				wantParsed(t, b, im, isForm)
			}
		}
	}
	for fill := range 256 {
		b := bytes.Repeat([]byte{byte(fill)}, 4000)
		wantDecode(t, "bytes that are all the same", b, api.Image{}, api.ErrImageForm)
		wantDecode(t, "such bytes behind the mark", append([]byte(smallestForm[:9]), b...), api.Image{}, api.ErrImageForm)
	}
}

// P9.1: lists as long as their counts can tell have a form, which is not valid.
func TestFormOfGreatLists(t *testing.T) {
	for what, one := range map[string]try{
		"segments":    {want: api.ErrImageSegs, change: func(im *api.Image) { im.Segs = make([]api.Seg, 255) }},
		"needed":      {want: api.ErrImageHead, change: func(im *api.Image) { im.Needed = make([]api.Need, 255) }},
		"versions":    {want: api.ErrImageHead, change: func(im *api.Image) { im.Needed[0].Versions = make([]string, 255) }},
		"run path":    {want: api.ErrImageHead, change: func(im *api.Image) { im.RunPath = make([]string, 255) }},
		"symbols":     {want: api.ErrImageSyms, change: func(im *api.Image) { im.Syms = make([]api.Symbol, 65535) }},
		"buckets":     {want: api.ErrImageTable, change: func(im *api.Image) { im.Table.Buckets = make([][]int, 65535) }},
		"a bucket":    {want: api.ErrImageTable, change: func(im *api.Image) { im.Table.Buckets[0] = make([]int, 65535) }},
		"words":       {want: api.ErrImageTable, change: func(im *api.Image) { im.Table.Filter.Words = make([]uint64, 255) }},
		"relocations": {want: api.ErrImageRelocs, change: func(im *api.Image) { im.Relocs = make([]api.Reloc, 65535) }},
		"slots":       {want: api.ErrImageSlots, change: func(im *api.Image) { im.Slots = make([]api.Slot, 65535) }},
		"Init":        {want: api.ErrImageRuns, change: func(im *api.Image) { im.Init = make([]int, 255) }},
		"Fini":        {want: api.ErrImageRuns, change: func(im *api.Image) { im.Fini = make([]int, 255) }},
	} {
		im := full()
		one.change(&im)
		mustForm(t, im)
		wantImage(t, what, im, one.want)
	}
}

// P9.1: numbers at the ends of what the form has are read as they are: the error is that of their part, not of the form.
func TestFormOfGreatNumbers(t *testing.T) {
	for what, one := range map[string]try{
		"flags":      {want: api.ErrImageHead, change: func(im *api.Image) { im.Flags = 255 }},
		"begin":      {want: api.ErrImageSegs, change: func(im *api.Image) { im.Segs[0].At = 1<<32 - 1 }},
		"size":       {want: api.ErrImageSegs, change: func(im *api.Image) { im.Segs[0].Size = 1<<32 - 1 }},
		"permission": {want: api.ErrImageSegs, change: func(im *api.Image) { im.Segs[0].Perm = 255 }},
		"block":      {want: api.ErrImageTls, change: func(im *api.Image) { im.TlsSize = 65535 }},
		"kind":       {want: api.ErrImageSyms, change: func(im *api.Image) { im.Syms[0].Kind = 255 }},
		"visibility": {want: api.ErrImageSyms, change: func(im *api.Image) { im.Syms[0].Vis = 255 }},
		"value":      {want: api.ErrImageSyms, change: func(im *api.Image) { im.Syms[0].Value = math.MinInt }},
		"its size":   {want: api.ErrImageSyms, change: func(im *api.Image) { im.Syms[0].Size = math.MaxInt }},
		"shift":      {want: api.ErrImageTable, change: func(im *api.Image) { im.Table.Filter.Shift = 255 }},
		"index":      {want: api.ErrImageTable, change: func(im *api.Image) { im.Table.Buckets[0] = []int{65535} }},
		"a kind":     {want: api.ErrImageRelocs, change: func(im *api.Image) { im.Relocs[0].Kind = 255 }},
		"address":    {want: api.ErrImageRelocs, change: func(im *api.Image) { im.Relocs[0].At = math.MaxInt }},
		"symbol":     {want: api.ErrImageRelocs, change: func(im *api.Image) { im.Relocs[0].Sym = math.MinInt }},
		"add":        {want: api.ErrImageRelocs, change: func(im *api.Image) { im.Relocs[0].Add = math.MinInt }},
		"slot":       {want: api.ErrImageSlots, change: func(im *api.Image) { im.Slots[0].At = 1<<32 - 1 }},
		"a symbol":   {want: api.ErrImageSlots, change: func(im *api.Image) { im.Slots[0].Sym = 1<<32 - 1 }},
		"stub":       {want: api.ErrImageSlots, change: func(im *api.Image) { im.Slots[0].Stub = 1<<32 - 1 }},
		"Init":       {want: api.ErrImageRuns, change: func(im *api.Image) { im.Init[0] = 1<<32 - 1 }},
		"Fini":       {want: api.ErrImageRuns, change: func(im *api.Image) { im.Fini[0] = 1<<32 - 1 }},
	} {
		im := full()
		one.change(&im)
		mustForm(t, im)
		wantImage(t, what, im, one.want)
	}
}
