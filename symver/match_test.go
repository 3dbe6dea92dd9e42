package symver_test

import (
	"slices"
	"testing"

	"clevis/api"
	"clevis/symver"
)

// P7.3: references with and without a version, definitions that are old and that are not, in images with and without versions.
func TestMatch(t *testing.T) {
	for _, c := range []struct {
		ref, def            api.Symbol
		versioned, unversed bool
	}{
		{ref("f", ""), def("f", "", false), true, true},
		{ref("f", ""), def("f", "V1", false), true, true},
		{ref("f", ""), def("f", "V1", true), false, false},
		{ref("f", "V1"), def("f", "", false), false, true},
		{ref("f", "V1"), def("f", "V1", false), true, true},
		{ref("f", "V1"), def("f", "V1", true), true, true},
		{ref("f", "V1"), def("f", "V2", false), false, true},
		{ref("f", "V1"), def("f", "V2", true), false, true},
		{ref("f", "V1"), def("f", "V", false), false, true},
		{ref("f", "V1"), def("f", "v1", false), false, true},
		{ref("f", "V1"), def("f", "V10", false), false, true},
	} {
		wantMatch(t, c.ref, c.def, true, c.versioned)
		wantMatch(t, c.ref, c.def, false, c.unversed)
	}
}

// P7.3: other names never match, not even the empty one, beginnings, or what differs in the case of letters alone.
func TestMatchOfOtherNames(t *testing.T) {
	names := append(rightNames(), "", "F", "ff", "n", "N")
	for i, name := range names {
		for j, other := range names {
			for _, version := range []string{"", "V"} {
				wantMatch(t, ref(name, version), def(other, version, false), true, i == j)
				wantMatch(t, ref(name, version), def(other, version, false), false, i == j)
			}
		}
	}
	wantMatch(t, ref("f", ""), def("f@@V", "", false), true, false)
	wantMatch(t, ref("f", "V"), def("V", "f", false), false, false)
}

// P7.3: what is hidden or not defined never matches, and what is protected does.
func TestMatchOfUnseen(t *testing.T) {
	for _, version := range []string{"", "V"} {
		for _, versioned := range []bool{true, false} {
			d := def("f", version, false)
			d.Vis = api.Protected
			wantMatch(t, ref("f", version), d, versioned, true)
			d.Vis = api.Hidden
			wantMatch(t, ref("f", version), d, versioned, false)
			wantMatch(t, ref("f", version), ref("f", version), versioned, false)
			d.Vis, d.Defined = api.Open, false
			wantMatch(t, ref("f", version), d, versioned, false)
		}
	}
}

// isMatch takes the document's conditions one by one.
func isMatch(r, d api.Symbol, versioned bool) bool {
	if r.Name != d.Name || !d.Defined || d.Vis == api.Hidden {
		return false
	}
	withVersion := d.Version == r.Version || !versioned
	return r.Version == "" && !d.Old || r.Version != "" && withVersion
}

// P7.3: all combinations of a reference and a definition; what else they have makes no difference, and a reference may be a definition itself.
func TestMatchByDefinition(t *testing.T) {
	refs := someSymbols([]string{"f", "g"}, []string{"", "V1", "V2"}, []api.SymKind{0, api.Func, api.Var}, rightVis(), []int{0, 8})
	defs := someSymbols([]string{"f", ""}, []string{"", "V1"}, []api.SymKind{api.Func, api.TlsVar}, append(rightVis(), 3), []int{-1, 64})
	seen := map[bool]int{}
	for _, r := range refs {
		for _, d := range defs {
			for _, versioned := range []bool{true, false} {
				want := isMatch(r, d, versioned)
				seen[want]++
				if symver.Match(r, d, versioned) != want {
					t.Fatalf("Match(%+v, %+v, %t) is %t", r, d, versioned, !want)
				}
			}
		}
	}
	if seen[true] == 0 || seen[false] == 0 {
		t.Errorf("combinations that match and that do not: %v", seen)
	}
}

// P7.4: of the definitions of a name in a versioned image, a reference matches at most one, and exactly the one that the document says.
func TestMatchAtMostOne(t *testing.T) {
	// Each set has at most one definition that is not old, and no version twice.
	for _, defs := range [][]api.Symbol{
		{def("f", "V1", false)},
		{def("f", "V1", true)},
		{def("f", "V1", true), def("f", "V2", false)},
		{def("f", "V1", true), def("f", "V2", true)},
		{def("f", "", false), def("f", "V1", true), def("f", "V2", true)},
		{def("f", "V3", true), def("f", "V1", true), def("f", "V2", false), def("f", "V4", true)},
	} {
		if !symver.Versioned(defs...) {
			t.Fatalf("no versions: %+v", defs)
		}
		for _, version := range []string{"", "V1", "V2", "V3", "V4", "V5"} {
			want := slices.IndexFunc(defs, func(d api.Symbol) bool {
				return version == "" && !d.Old || version != "" && d.Version == version
			})
			for at, d := range defs {
				wantMatch(t, ref("f", version), d, true, at == want)
			}
		}
	}
}

// The examples of the chapter, by their texts.
func TestExamples(t *testing.T) {
	for _, c := range []struct {
		ref, def        string
		versioned, want bool
	}{
		{"f", "f@V1", true, false},
		{"f", "f@V1", false, false},
		{"f", "f@@V1", true, true},
		{"f", "f@@V1", false, true},
		{"f@V1", "f@V1", true, true},
		{"f@V1", "f@V1", false, true},
		{"f@V2", "f@@V1", true, false},
		{"f@V2", "f@@V1", false, true},
	} {
		r, e := symver.Parse(c.ref, false)
		d, f := symver.Parse(c.def, true)
		if e != api.OK || f != api.OK {
			t.Fatalf("%q: %d; %q: %d", c.ref, e, c.def, f)
		}
		wantMatch(t, r, d, c.versioned, c.want)
	}
	wantParseError(t, "f@@V1", false)
	wantParseError(t, "f@", true)
}
