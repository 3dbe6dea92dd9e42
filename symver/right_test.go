package symver_test

import (
	"math"
	"slices"
	"testing"

	"clevis/api"
	"clevis/symver"
)

// P7.2: symbols of each kind and each visibility, old and not old, with a version and without.
func TestRight(t *testing.T) {
	for _, kind := range rightKinds() {
		for _, weak := range []bool{false, true} {
			for _, vis := range rightVis() {
				for _, n := range []int{0, 1, 8, 1 << 32, math.MaxInt} {
					wantRight(t, api.Symbol{Name: "f", Kind: kind, Weak: weak, Vis: vis, Defined: true, Value: n}, api.OK)
					wantRight(t, api.Symbol{Name: "f", Version: "V", Kind: kind, Weak: weak, Vis: vis, Defined: true, Size: n}, api.OK)
					wantRight(t, api.Symbol{Name: "f", Version: "V", Old: true, Kind: kind, Weak: weak, Vis: vis, Defined: true, Value: n, Size: n}, api.OK)
				}
			}
			wantRight(t, api.Symbol{Name: "f", Kind: kind, Weak: weak}, api.OK)
			wantRight(t, api.Symbol{Name: "f", Version: "V", Kind: kind, Weak: weak}, api.OK)
		}
	}
}

// P7.2: a name is one, and a version one or empty, in definitions and in references.
func TestRightOfNames(t *testing.T) {
	for _, name := range rightNames() {
		for _, s := range []api.Symbol{def(name, "", false), def("f", name, false), def("f", name, true), def(name, name, true), ref(name, ""), ref("f", name)} {
			wantRight(t, s, api.OK)
		}
	}
	for _, wrong := range wrongNames() {
		for _, s := range []api.Symbol{def(wrong, "", false), def(wrong, "V", false), def(wrong, "V", true), ref(wrong, ""), ref(wrong, "V")} {
			wantRight(t, s, api.ErrName)
		}
		if wrong != "" {
			for _, s := range []api.Symbol{def("f", wrong, false), def("f", wrong, true), ref("f", wrong)} {
				wantRight(t, s, api.ErrName)
			}
		}
	}
}

// P7.2: each thing alone that makes a valid symbol a wrong one.
func TestRightRefuses(t *testing.T) {
	wantRight(t, api.Symbol{}, api.ErrName)
	wantRight(t, def("f", "", true), api.ErrName)
	for _, good := range []api.Symbol{def("f", "", false), def("f", "V", false), def("f", "V", true), ref("f", ""), ref("f", "V")} {
		wantRight(t, good, api.OK)
		for _, kind := range wrongKinds() {
			bad := good
			bad.Kind = kind
			wantRight(t, bad, api.ErrName)
		}
		for _, vis := range wrongVis() {
			bad := good
			bad.Vis = vis
			wantRight(t, bad, api.ErrName)
		}
		for _, n := range []int{-1, -2, -8, -1 << 32, math.MinInt + 1, math.MinInt} {
			bad := good
			bad.Value = n
			wantRight(t, bad, api.ErrName)
			bad = good
			bad.Size = n
			wantRight(t, bad, api.ErrName)
		}
	}
}

// P7.2: what only a definition has makes a reference a wrong one.
func TestRightRefusesReferences(t *testing.T) {
	for _, good := range []api.Symbol{ref("f", ""), ref("f", "V")} {
		bad := good
		bad.Old = true
		wantRight(t, bad, api.ErrName)
		for _, vis := range []api.Vis{api.Protected, api.Hidden} {
			bad = good
			bad.Vis = vis
			wantRight(t, bad, api.ErrName)
		}
		for _, n := range []int{1, 8, math.MaxInt} {
			bad = good
			bad.Value = n
			wantRight(t, bad, api.ErrName)
			bad = good
			bad.Size = n
			wantRight(t, bad, api.ErrName)
		}
	}
}

// isValid takes the document's conditions one by one.
func isValid(s api.Symbol, isName map[string]int) bool {
	return isName[s.Name] == 1 &&
		(isName[s.Version] == 1 || s.Version == "") &&
		slices.Contains(rightKinds(), s.Kind) &&
		slices.Contains(rightVis(), s.Vis) &&
		min(s.Value, s.Size) >= 0 &&
		(!s.Old || s.Version != "") &&
		(s.Defined || s == api.Symbol{Name: s.Name, Version: s.Version, Kind: s.Kind, Weak: s.Weak})
}

// P7.2: all combinations of fields that are valid by themselves and of such that are not.
func TestRightByDefinition(t *testing.T) {
	isName := map[string]int{"f": 1, "V": 1, long(64): 1}
	names := []string{"f", long(64), "", long(65), "f@"}
	versions := []string{"", "V", "@V", long(65)}
	valid := 0
	for _, s := range someSymbols(names, versions, append(rightKinds(), 0, 4), append(rightVis(), -1, 3), []int{-1, 0, 1}) {
		want := api.ErrName
		if isValid(s, isName) {
			want = api.OK
			valid++
		}
		wantRight(t, s, want)
	}
	// Two names; definitions with 2 values and 2 sizes, 3 visibilities, and 3 ways to have a version or none; references with 2 of them; 3 kinds, weak or not.
	if want := 2 * 3 * 2 * (2*2*3*3 + 2); valid != want {
		t.Errorf("%d symbols are valid, want %d", valid, want)
	}
}

func wantVersioned(t *testing.T, want bool, syms ...api.Symbol) {
	t.Helper()
	if got := symver.Versioned(syms...); got != want {
		t.Errorf("Versioned(%+v) is %t", syms, got)
	}
}

// P7.2: one definition with a version is enough, wherever it stands, and references do not count.
func TestVersioned(t *testing.T) {
	wantVersioned(t, false)
	wantVersioned(t, false, []api.Symbol{}...)
	wantVersioned(t, false, def("f", "", false))
	wantVersioned(t, false, ref("f", ""))
	wantVersioned(t, false, ref("f", "V"))
	wantVersioned(t, true, def("f", "V", false))
	wantVersioned(t, true, def("f", "V", true))
	plain := []api.Symbol{def("f", "", false), ref("g", "V"), ref("h", ""), def("i", "", false), ref("j", "W")}
	wantVersioned(t, false, plain...)
	for at := range len(plain) + 1 {
		wantVersioned(t, true, slices.Insert(slices.Clone(plain), at, def("k", "V", at%2 == 0))...)
	}
}

// P7.2: Versioned asks for nothing but Defined and the version: not for the visibility, nor whether a symbol is valid.
func TestVersionedOfOtherFields(t *testing.T) {
	for _, s := range someSymbols([]string{"f", "", "f@"}, []string{"", "V", "@"}, append(rightKinds(), 0), append(rightVis(), 3, -1), []int{-1, 0, 8}) {
		wantVersioned(t, s.Defined && s.Version != "", s)
	}
}

// P7.2 with W6: Versioned leaves the symbols as they are, the spare ones too.
func TestVersionedLeavesArguments(t *testing.T) {
	syms := []api.Symbol{ref("f", "V"), def("g", "V", true), def("h", "", false)}
	was := slices.Clone(syms)
	wantVersioned(t, true, syms[:2]...)
	wantVersioned(t, false, syms[:1]...)
	if !slices.Equal(syms, was) {
		t.Errorf("arguments changed: %+v", syms)
	}
}

// P7.2: Seen asks for nothing but Defined and the visibility.
func TestSeen(t *testing.T) {
	for _, s := range someSymbols([]string{"f", ""}, []string{"", "V"}, append(rightKinds(), 0), append(rightVis(), wrongVis()...), []int{-1, 0, 8}) {
		if got := symver.Seen(s); got != (s.Defined && s.Vis != 2) {
			t.Errorf("Seen(%+v) is %t", s, got)
		}
	}
}
