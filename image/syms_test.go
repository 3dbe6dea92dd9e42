package image_test

import (
	"math"
	"strconv"
	"testing"

	"clevis/api"
	"clevis/image"
	"clevis/table"
)

// withSyms is an image with code from 0 to 100, words from 128 to 200, further words from 256 on and 24 thread-local bytes, which has these symbols and their table.
func withSyms(syms ...api.Symbol) api.Image {
	return tabled(api.Image{
		Segs:    []api.Seg{{Size: 100, Perm: 5}, {At: 128, Size: 72, Perm: 3}, {At: 256, Size: 64}, {At: 320, Size: 8, Perm: 1}},
		TlsSize: 24,
		Syms:    syms,
	})
}

func wantSym(t *testing.T, what string, isRight bool, s api.Symbol) {
	t.Helper()
	want := worse(isRight, api.ErrImageSyms)
	wantImage(t, what, withSyms(s), want)
	wantImage(t, what+", the last", withSyms(api.Symbol{Name: "first", Kind: api.Func}, s), want)
}

// P9.1: a symbol that is not valid, whether it is defined or not.
func TestSymsAreValid(t *testing.T) {
	ref := api.Symbol{Name: "r", Kind: api.Func}
	def := api.Symbol{Name: "d", Kind: api.Var, Defined: true, Value: 8, Size: 8}
	for _, one := range []struct {
		what    string
		ref     bool
		def     bool
		changed func(*api.Symbol)
	}{
		{"nothing", true, true, func(*api.Symbol) {}},
		{"a weak one", true, true, func(s *api.Symbol) { s.Weak = true }},
		{"a version", true, true, func(s *api.Symbol) { s.Version = "V1" }},
		{"an old version", false, true, func(s *api.Symbol) { s.Version, s.Old = "V1", true }},
		{"old without a version", false, false, func(s *api.Symbol) { s.Old = true }},
		{"no name", false, false, func(s *api.Symbol) { s.Name = "" }},
		{"no valid name", false, false, func(s *api.Symbol) { s.Name = "a-b" }},
		{"a name of 64", true, true, func(s *api.Symbol) { s.Name = long(64) }},
		{"a name of 65", false, false, func(s *api.Symbol) { s.Name = long(65) }},
		{"a version of 64", true, true, func(s *api.Symbol) { s.Version = long(64) }},
		{"a version of 65", false, false, func(s *api.Symbol) { s.Version = long(65) }},
		{"no valid version", false, false, func(s *api.Symbol) { s.Version = "@V" }},
		{"kind 0", false, false, func(s *api.Symbol) { s.Kind = 0 }},
		{"kind 3", true, true, func(s *api.Symbol) { s.Kind = api.TlsVar }},
		{"kind 4", false, false, func(s *api.Symbol) { s.Kind = 4 }},
		{"kind -1", false, false, func(s *api.Symbol) { s.Kind = -1 }},
		{"protected", false, true, func(s *api.Symbol) { s.Vis = api.Protected }},
		{"hidden", false, true, func(s *api.Symbol) { s.Vis = api.Hidden }},
		{"visibility 3", false, false, func(s *api.Symbol) { s.Vis = 3 }},
		{"visibility -1", false, false, func(s *api.Symbol) { s.Vis = -1 }},
		{"a value of 1", false, true, func(s *api.Symbol) { s.Value = 1 }},
		{"a size of 1", false, true, func(s *api.Symbol) { s.Size = 1 }},
		{"a negative value", false, false, func(s *api.Symbol) { s.Value = -1 }},
		{"a negative size", false, false, func(s *api.Symbol) { s.Size = -1 }},
		{"the least size", false, false, func(s *api.Symbol) { s.Size = math.MinInt }},
		{"the least value", false, false, func(s *api.Symbol) { s.Value = math.MinInt }},
	} {
		r, d := ref, def
		one.changed(&r)
		one.changed(&d)
		wantSym(t, one.what+" of a reference", one.ref, r)
		wantSym(t, one.what+" of a definition", one.def, d)
	}
}

// P9.1: the bytes of a function and of a variable are in one segment, of whatever permission; none are where a segment has its end, too.
func TestSymsAreInTheImage(t *testing.T) {
	for _, one := range []struct {
		value, size int
		isRight     bool
	}{
		{0, 0, true}, {0, 1, true}, {0, 99, true}, {0, 100, true}, {0, 101, false}, {1, 99, true}, {1, 100, false},
		{99, 0, true}, {99, 1, true}, {99, 2, false}, {100, 0, true}, {100, 1, false}, {101, 0, false}, {127, 0, false}, {127, 1, false},
		{128, 0, true}, {128, 72, true}, {128, 73, false}, {199, 1, true}, {200, 0, true}, {200, 1, false}, {201, 0, false},
		{255, 1, false}, {256, 64, true}, {256, 65, false}, {256, 72, false}, {312, 16, false}, {319, 1, true}, {319, 2, false},
		{320, 0, true}, {320, 8, true}, {320, 9, false}, {328, 0, true}, {328, 1, false}, {329, 0, false}, {65536, 0, false},
		{0, math.MaxInt, false}, {100, math.MaxInt, false}, {math.MaxInt, 0, false}, {math.MaxInt, 1, false}, {math.MaxInt, math.MaxInt, false},
		{math.MaxInt - 7, 8, false}, {8, math.MaxInt - 7, false}, {1 << 62, 1 << 62, false}, {1 << 32, 0, false}, {1 << 32, 8, false},
	} {
		what := strconv.Itoa(one.size) + " bytes at " + strconv.Itoa(one.value)
		for _, kind := range []api.SymKind{api.Func, api.Var} {
			for vis := range api.Hidden + 1 {
				wantSym(t, what, one.isRight, api.Symbol{Name: "s", Kind: kind, Vis: vis, Defined: true, Value: one.value, Size: one.size})
			}
		}
	}
}

// P9.1: a symbol that is not defined is nowhere: it needs neither an address 0 in the image nor a block.
func TestReferencesAreNowhere(t *testing.T) {
	for kind := api.Func; kind <= api.TlsVar; kind++ {
		for _, isDefined := range []bool{false, true} {
			im := segmented(api.Seg{At: 64, Size: 8})
			im.Syms = []api.Symbol{{Name: "s", Kind: kind, Defined: isDefined}}
			isRight := !isDefined || kind == api.TlsVar
			wantImage(t, "a symbol of kind "+strconv.Itoa(int(kind)), tabled(im), worse(isRight, api.ErrImageSyms))
		}
	}
}

// P9.1: the bytes of a thread-local variable are in the block, wherever the segments are.
func TestTlsVarsAreInTheBlock(t *testing.T) {
	for _, one := range []struct {
		value, size int
		isRight     bool
	}{
		{0, 0, true}, {0, 24, true}, {0, 25, false}, {16, 8, true}, {16, 9, false}, {17, 8, false}, {23, 1, true}, {24, 0, true}, {24, 1, false},
		{25, 0, false}, {64, 0, false}, {128, 8, false}, {math.MaxInt, 0, false}, {math.MaxInt, 1, false}, {0, math.MaxInt, false},
		{math.MaxInt, math.MaxInt, false}, {24, math.MaxInt - 23, false}, {1 << 62, 1 << 62, false},
	} {
		what := strconv.Itoa(one.size) + " bytes at " + strconv.Itoa(one.value)
		wantSym(t, what, one.isRight, api.Symbol{Name: "s", Kind: api.TlsVar, Defined: true, Value: one.value, Size: one.size})
	}
	im := withSyms(api.Symbol{Name: "s", Kind: api.TlsVar, Defined: true, Value: 4095, Size: 1})
	wantImage(t, "behind the block", im, api.ErrImageSyms)
	im.TlsSize = 4096
	wantImage(t, "at the end of the greatest block", im, api.OK)
	im = withSyms(api.Symbol{Name: "s", Kind: api.TlsVar, Defined: true})
	im.TlsSize = 0
	wantImage(t, "no bytes of no block", im, api.OK)
}

// P9.1: definitions of one name need versions that differ, and at most one is not old. References do not count.
func TestSymsDoNotClash(t *testing.T) {
	def := func(name, version string, isOld bool) api.Symbol {
		return api.Symbol{Name: name, Version: version, Old: isOld, Kind: api.Func, Defined: true}
	}
	hidden := api.Symbol{Name: "f", Kind: api.Var, Vis: api.Hidden, Defined: true}
	tls := api.Symbol{Name: "f", Kind: api.TlsVar, Defined: true}
	ref := func(version string) api.Symbol { return api.Symbol{Name: "f", Version: version, Kind: api.Func} }
	for _, one := range []struct {
		what    string
		isRight bool
		a, b    api.Symbol
	}{
		{"other names", true, def("f", "", false), def("g", "", false)},
		{"other names of one version", true, def("f", "V", false), def("g", "V", false)},
		{"capitals", true, def("f", "", false), def("F", "", false)},
		{"the same twice", false, def("f", "", false), def("f", "", false)},
		{"the same version twice", false, def("f", "V", false), def("f", "V", false)},
		{"the same old version twice", false, def("f", "V", true), def("f", "V", true)},
		{"the same version, one old", false, def("f", "V", false), def("f", "V", true)},
		{"two that are not old", false, def("f", "V", false), def("f", "W", false)},
		{"two that are not old, one without a version", false, def("f", "V", false), def("f", "", false)},
		{"two versions, one old", true, def("f", "V", false), def("f", "W", true)},
		{"two old versions", true, def("f", "V", true), def("f", "W", true)},
		{"an old version and none", true, def("f", "V", true), def("f", "", false)},
		{"a hidden one", false, def("f", "", false), hidden},
		{"a hidden one and an old one", true, def("f", "V", true), hidden},
		{"a thread-local one", false, def("f", "", false), tls},
		{"a definition and a reference", true, def("f", "", false), ref("")},
		{"a definition and a reference with a version", true, def("f", "V", false), ref("V")},
		{"an old definition and a reference", true, def("f", "V", true), ref("V")},
		{"two references", true, ref(""), ref("")},
		{"two references with a version", true, ref("V"), ref("V")},
	} {
		want := worse(one.isRight, api.ErrImageSyms)
		other := def("other", "", false)
		wantImage(t, one.what, withSyms(one.a, one.b), want)
		wantImage(t, one.what+", turned round", withSyms(one.b, one.a), want)
		wantImage(t, one.what+", with others", withSyms(other, one.a, ref("X"), one.b, ref("Y")), want)
	}
	three := []api.Symbol{def("f", "V", true), def("f", "W", true), def("f", "X", false)}
	wantImage(t, "three versions", withSyms(three...), api.OK)
	three[2].Version = "V"
	wantImage(t, "the last has the version of the first", withSyms(three...), api.ErrImageSyms)
}

// P9.1: at most 512 symbols, defined or not.
func TestCountOfSyms(t *testing.T) {
	for _, n := range []int{0, 1, 511, 512, 513, 514, 1024, 65535, 65536} {
		syms := make([]api.Symbol, n)
		for i := range syms {
			syms[i] = api.Symbol{Name: "s" + strconv.Itoa(i), Kind: api.Func, Defined: i%3 > 0}
		}
		wantImage(t, strconv.Itoa(n)+" symbols", withSyms(syms...), worse(n <= 512, api.ErrImageSyms))
	}
}

// P9.1: the table is valid for the symbols: each valid one will do, and no other.
func TestTable(t *testing.T) {
	im := full()
	wide := im
	wide.Table.Filter = api.Filter{Words: []uint64{math.MaxUint64, math.MaxUint64}, Shift: 31}
	wantImage(t, "another filter", wide, api.OK)
	for what, change := range map[string]func(*api.Table){
		"no table":           func(t *api.Table) { *t = api.Table{} },
		"no buckets":         func(t *api.Table) { t.Buckets = nil },
		"an empty bucket":    func(t *api.Table) { t.Buckets[0] = nil },
		"one bucket more":    func(t *api.Table) { t.Buckets = append(t.Buckets, nil) },
		"buckets changed":    func(t *api.Table) { t.Buckets[0], t.Buckets[1] = t.Buckets[1], t.Buckets[0] },
		"an index twice":     func(t *api.Table) { t.Buckets[0] = append(t.Buckets[0], t.Buckets[0]...) },
		"an index too great": func(t *api.Table) { t.Buckets[0] = append(t.Buckets[0], len(im.Syms)) },
		"an index below 0":   func(t *api.Table) { t.Buckets[0] = append([]int{-1}, t.Buckets[0]...) },
		"a reference":        func(t *api.Table) { t.Buckets[0] = []int{symW} },
		"no filter":          func(t *api.Table) { t.Filter = api.Filter{} },
		"no bits":            func(t *api.Table) { t.Filter.Words[0] = 0 },
		"three words":        func(t *api.Table) { t.Filter.Words = []uint64{math.MaxUint64, math.MaxUint64, math.MaxUint64} },
		"shift 0":            func(t *api.Table) { t.Filter.Shift = 0 },
		"shift 32":           func(t *api.Table) { t.Filter.Shift = 32 },
		"shift -1":           func(t *api.Table) { t.Filter.Shift = -1 },
		"shift 256":          func(t *api.Table) { t.Filter.Shift = 256 },
	} {
		im := full()
		change(&im.Table)
		wantImage(t, what, im, api.ErrImageTable)
	}
	im.Table, _ = table.Make()
	wantImage(t, "the table of no symbols", im, api.ErrImageTable)
}

// P9.1: tables of up to 512 buckets and 64 words are in the bytes as they are.
func TestTableIsKept(t *testing.T) {
	im := withSyms(api.Symbol{Name: "f", Kind: api.Func, Defined: true})
	for _, n := range []int{1, 2, 255, 256, 257, 512, 513} {
		im.Table.Buckets = make([][]int, n)
		at := -1
		for i := range n {
			im.Table.Buckets[i] = []int{0}
			if image.May(im) == api.OK {
				at = i
				break
			}
			im.Table.Buckets[i] = nil
		}
		wantImage(t, strconv.Itoa(n)+" buckets", im, worse(at >= 0 && n <= 512, api.ErrImageTable))
		if n <= 512 && at < 0 {
			t.Errorf("%d buckets: none of them will do", n)
		}
	}
	im = withSyms()
	for _, n := range []int{1, 2, 4, 8, 16, 32, 64, 128, 256} {
		im.Table.Filter = api.Filter{Words: make([]uint64, n), Shift: 1}
		for i := range n {
			im.Table.Filter.Words[i] = math.MaxUint64 - uint64(i)<<56
		}
		wantImage(t, strconv.Itoa(n)+" words", im, worse(n <= 64, api.ErrImageTable))
	}
}
