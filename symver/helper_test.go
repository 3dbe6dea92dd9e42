package symver_test

import (
	"math"
	"strings"
	"testing"

	"clevis/api"
	"clevis/symver"
)

// nameBytes are all bytes that a name may have, as the document lists them.
const nameBytes = "abcdefghijklmnopqrstuvwxyzABCDEFGHIJKLMNOPQRSTUVWXYZ0123456789_."

func rightNames() []string {
	return []string{
		"f", "Z", "0", "_", ".", "f1", "1f", "..", "__", "malloc", "_init.2", "libc.so.6", "GLIBC_2.17", "a.B_9",
		nameBytes[:64], nameBytes[1:], long(2), long(63), long(64), strings.Repeat(".", 64), strings.Repeat("_", 64),
	}
}

// wrongNames has none with `@`, so that they are wrong as parts of a text, too.
func wrongNames() []string {
	return []string{
		"", " ", "f g", " f", "f ", "f\n", "\x00", "f\x00", "f\x00g", "-", "f-g", "f/g", "$f", "f+1", "f:", "(f)", "f,g", "*", "~f",
		"\u00e9", "f\u00e9", "\u017f", "\u212a", "\u0663", "\uff11", "\xff", "\x80f", "\xc3", strings.Repeat("\u00e9", 32),
		long(65), long(66), long(128), long(4096), nameBytes + nameBytes, long(63) + "\u00e9", long(64) + "\x00",
	}
}

func long(n int) string { return strings.Repeat("n", n) }

// someBytes are all strings of at most so many bytes that consist of the letters.
func someBytes(letters string, most int) []string {
	all := []string{""}
	for from := 0; len(all[from]) < most; from++ {
		for i := range len(letters) {
			all = append(all, all[from]+letters[i:i+1])
		}
	}
	return all
}

func rightKinds() []api.SymKind { return []api.SymKind{api.Func, api.Var, api.TlsVar} }

func wrongKinds() []api.SymKind {
	return []api.SymKind{0, 4, 5, -1, -2, -3, 255, 256 + 1, 1<<32 + 1, math.MinInt, math.MaxInt}
}

func rightVis() []api.Vis { return []api.Vis{api.Open, api.Protected, api.Hidden} }

func wrongVis() []api.Vis {
	return []api.Vis{3, 4, -1, -2, 255, 256, 1 << 32, 1<<32 + 2, math.MinInt, math.MaxInt}
}

// def is an open function that is defined.
func def(name, version string, isOld bool) api.Symbol {
	return api.Symbol{Name: name, Version: version, Old: isOld, Kind: api.Func, Defined: true, Value: 64, Size: 8}
}

func ref(name, version string) api.Symbol {
	return api.Symbol{Name: name, Version: version, Kind: api.Func}
}

// someSymbols are symbols with each combination of the names, versions and numbers, and of everything else that is listed.
func someSymbols(names, versions []string, kinds []api.SymKind, vis []api.Vis, numbers []int) []api.Symbol {
	all := []api.Symbol{{}}
	all = vary(all, names, func(s *api.Symbol, name string) { s.Name = name })
	all = vary(all, versions, func(s *api.Symbol, version string) { s.Version = version })
	all = vary(all, kinds, func(s *api.Symbol, kind api.SymKind) { s.Kind = kind })
	all = vary(all, vis, func(s *api.Symbol, vis api.Vis) { s.Vis = vis })
	all = vary(all, numbers, func(s *api.Symbol, n int) { s.Value = n })
	all = vary(all, numbers, func(s *api.Symbol, n int) { s.Size = n })
	for _, set := range []func(*api.Symbol, bool){
		func(s *api.Symbol, b bool) { s.Old = b },
		func(s *api.Symbol, b bool) { s.Weak = b },
		func(s *api.Symbol, b bool) { s.Defined = b },
	} {
		all = vary(all, []bool{false, true}, set)
	}
	return all
}

func vary[T any](syms []api.Symbol, values []T, set func(*api.Symbol, T)) []api.Symbol {
	var all []api.Symbol
	for _, s := range syms {
		for _, v := range values {
			set(&s, v)
			all = append(all, s)
		}
	}
	return all
}

func wantParse(t *testing.T, text string, defined bool, want api.Symbol) {
	t.Helper()
	if s, e := symver.Parse(text, defined); s != want || e != api.OK {
		t.Errorf("Parse(%q, %t) is %+v and %d, want %+v and 0", text, defined, s, e, want)
	}
}

func wantParseError(t *testing.T, text string, defined bool) {
	t.Helper()
	if s, e := symver.Parse(text, defined); s != (api.Symbol{}) || e != api.ErrName {
		t.Errorf("Parse(%q, %t) is %+v and %d, want nothing and %d", text, defined, s, e, api.ErrName)
	}
}

func wantPrint(t *testing.T, s api.Symbol, want string) {
	t.Helper()
	if text := symver.Print(s); text != want {
		t.Errorf("Print(%+v) is %q, want %q", s, text, want)
	}
}

func wantRight(t *testing.T, s api.Symbol, want api.Errno) {
	t.Helper()
	if e := symver.Right(s); e != want {
		t.Errorf("Right(%+v) is %d, want %d", s, e, want)
	}
}

func wantMatch(t *testing.T, ref, def api.Symbol, versioned, want bool) {
	t.Helper()
	if got := symver.Match(ref, def, versioned); got != want {
		t.Errorf("Match(%+v, %+v, %t) is %t", ref, def, versioned, got)
	}
}
