package builder_test

import (
	"slices"
	"strings"
	"testing"

	"clevis/api"
)

// wantNew wants these kinds, names, versions and weaknesses of the symbols behind the definitions, such as `Func x@V1 weak`.
func wantNew(t *testing.T, what string, spec api.Spec, want ...string) {
	t.Helper()
	im := wantSpec(t, what, spec, api.OK)
	var got []string
	for _, s := range im.Syms[len(spec.Funcs)+len(spec.Vars):] {
		text := []string{"", "Func ", "Var ", "TlsVar "}[s.Kind] + s.Name
		if s.Version != "" {
			text += "@" + s.Version
		}
		if s.Weak {
			text += " weak"
		}
		got = append(got, text)
		if s.Defined || s.Old || s.Vis != api.Open || s.Value != 0 || s.Size != 0 {
			t.Errorf("%s: a new symbol has more than a name: %+v", what, s)
		}
	}
	if !slices.Equal(got, want) {
		t.Errorf("%s: the new symbols are %q, want %q", what, got, want)
	}
}

// wantSlots wants slots of the symbols with these indices.
func wantSlots(t *testing.T, what string, spec api.Spec, want ...int) {
	t.Helper()
	im := wantSpec(t, what, spec, api.OK)
	var got []int
	for _, s := range im.Slots {
		got = append(got, s.Sym)
	}
	if !slices.Equal(got, want) {
		t.Errorf("%s: the slots are of %d, want %d", what, got, want)
	}
}

// askers is a spec for each way to ask for a name.
func askers(text string) map[string]api.Spec {
	return map[string]api.Spec{
		"CallName": lines(call(text)), "AddrName": lines(addr(3, text)),
		"TlsName": lines(tlsOf(3, text)), "TpName": lines(tpOf(3, text)), "Ref": vars(refer("main", ref(0, text, 0))),
	}
}

// errorOf is what goes wrong with a way to ask.
func errorOf(way string) api.Errno {
	if way == "Ref" {
		return api.ErrSpecVar
	}
	return api.ErrSpecLine
}

// P10.1, 6: what a new symbol is, by the way in which its name is asked for.
func TestNewSymbols(t *testing.T) {
	for way, kind := range map[string]string{"CallName": "Func", "AddrName": "Var", "TlsName": "TlsVar", "TpName": "TlsVar", "Ref": "Var"} {
		for _, text := range []string{"x", "x@V1"} {
			spec := askers(text)[way]
			wantNew(t, way, spec, kind+" "+text)
			spec.Weak = []string{"y", "x"}
			wantNew(t, way, spec, kind+" "+text+" weak")
			spec.Weak = []string{"x@V1", "main", "V1", "X", ""}
			wantNew(t, way, spec, kind+" "+text)
		}
	}
	spec := lines(call("a"), call("b"), call("a@V"), addr(1, "c"))
	spec.Weak = []string{"c", "a", "a", "none"}
	wantNew(t, "several", spec, "Func a weak", "Func b", "Func a@V weak", "Var c weak")
}

// P10.1, 6: a definition that is asked for is as weak as the spec says of itself.
func TestWeakDefinitions(t *testing.T) {
	spec := lines(call("main"), call("f"))
	spec.Funcs = append(spec.Funcs, fn("f", ret()))
	spec.Funcs[1].Sym.Weak = true
	spec.Weak = []string{"main"}
	im := wantSpec(t, "weak", spec, api.OK)
	if im.Syms[0].Weak || !im.Syms[1].Weak || len(im.Syms) != 2 {
		t.Errorf("the symbols are %+v", im.Syms)
	}
}

// P10.1, 6: names and versions that are no names.
func TestWrongNames(t *testing.T) {
	for text, isRight := range map[string]bool{
		"x": true, "_.0": true, long(64): true, long(64) + "@" + long(64): true, "x@V": true,
		"": false, "@V": false, "a b": false, long(65): false, "x@" + long(65): false, "x@V 1": false, "x@@V": false, "\xff": false, "x@\x00": false,
	} {
		for way, spec := range askers(text) {
			wantSpec(t, way+" of "+text, spec, worse(isRight, errorOf(way)))
		}
	}
}

// P10.1, 6: which kinds of definitions each way may denote.
func TestKindsOfDefinitions(t *testing.T) {
	for way, kinds := range map[string]string{"CallName": "f", "AddrName": "fv", "TlsName": "t", "TpName": "t", "Ref": "fv"} {
		for _, name := range []string{"f", "v", "t"} {
			for _, vis := range []api.Vis{api.Open, api.Protected, api.Hidden} {
				spec := askers(name)[way]
				spec.Funcs = append(spec.Funcs, fn("f", ret()))
				spec.Vars = append(spec.Vars, variable("v", 1), threadLocal("t", 2))
				spec.Funcs[len(spec.Funcs)-1].Sym.Vis, spec.Vars[len(spec.Vars)-1].Sym.Vis, spec.Vars[len(spec.Vars)-2].Sym.Vis = vis, vis, vis
				isRight := strings.Contains(kinds, name)
				im := wantSpec(t, way+" of "+name, spec, worse(isRight, errorOf(way)))
				if isRight && len(im.Syms) != 4 {
					t.Errorf("%s of %s: the symbols are %+v", way, name, im.Syms)
				}
			}
		}
	}
}

// P10.1, 6: what two ways make of one new symbol: the first pass is ahead of the addresses, whatever the order of the lines.
func TestKindsOfNewSymbols(t *testing.T) {
	for _, c := range []struct {
		one, other api.Line
		want       string // empty: an error
	}{
		{call("x"), call("x"), "Func x"}, {call("x"), addr(1, "x"), "Func x"}, {call("x"), tlsOf(1, "x"), ""}, {call("x"), tpOf(1, "x"), ""},
		{tlsOf(1, "x"), tlsOf(2, "x"), "TlsVar x"}, {tlsOf(1, "x"), tpOf(2, "x"), "TlsVar x"}, {tlsOf(1, "x"), addr(2, "x"), ""},
		{tpOf(1, "x"), tpOf(2, "x"), "TlsVar x"}, {tpOf(1, "x"), addr(2, "x"), ""}, {addr(1, "x"), addr(2, "x"), "Var x"},
	} {
		for _, spec := range []api.Spec{
			lines(c.one, c.other), lines(c.other, c.one),
			funcs(fn("a", c.one), fn("b", c.other)), funcs(fn("a", c.other), fn("b", c.one)),
		} {
			if c.want == "" {
				wantSpec(t, "two lines", spec, api.ErrSpecLine)
				continue
			}
			wantNew(t, "two lines", spec, c.want)
			spec.Vars = []api.VarSpec{refer("w", ref(0, "x", 0))}
			if c.want == "TlsVar x" {
				wantSpec(t, "two lines and a ref", spec, api.ErrSpecVar)
			} else {
				wantNew(t, "two lines and a ref", spec, c.want)
			}
		}
	}
	wantNew(t, "refs", vars(refer("v", ref(0, "x", 0), ref(1, "x", 8)), refer("w", ref(0, "x", 0))), "Var x")
}

// P10.1: what a name and a version denote among definitions.
func TestWhatIsDenoted(t *testing.T) {
	for _, c := range []struct {
		text string
		want int
	}{
		{"a", 0}, {"a@V1", 1}, {"a@V2", 2}, {"a@V3", -1},
		{"b", 3}, {"b@V2", 3}, {"b@V1", 4}, {"b@V", -1},
		{"c", -1}, {"c@V1", 5}, {"c@V2", -1},
		{"d", 6}, {"d@V1", -1}, {"A", -1}, {"e", -1},
	} {
		fs := []api.FuncSpec{fn("a", call(c.text)), fn("a@V1", ret()), fn("a@V2", ret()), fn("b@@V2", ret()), fn("b@V1", ret()), fn("c@V1", ret()), fn("d", ret())}
		if c.want >= 0 {
			wantNew(t, c.text, funcs(fs...))
			wantSlots(t, c.text, funcs(fs...), c.want)
		} else {
			wantNew(t, c.text, funcs(fs...), "Func "+c.text)
			wantSlots(t, c.text, funcs(fs...), 7)
		}
		wantSlots(t, c.text, api.Spec{Funcs: append(fs, fn("z", call(c.text)))}, map[bool]int{true: c.want, false: 8}[c.want >= 0])
	}
}

// P10.1: what a name and a version denote among new symbols: only just this version.
func TestWhatIsDenotedAnew(t *testing.T) {
	spec := lines(call("x@V1"), call("x"), call("x@V2"), call("x@V1"), call("x"), call("x@V2"), call("y@V1"), call("y"))
	wantNew(t, "versions", spec, "Func x@V1", "Func x", "Func x@V2", "Func y@V1", "Func y")
	wantSlots(t, "versions", spec, 1, 2, 3, 4, 5)
	// An old definition is not meant without its version, a new symbol without one does not have every version.
	spec = funcs(fn("f@V1", call("f"), call("f@V2"), call("f@V1"), addr(1, "f"), addr(2, "f@V2"), addr(3, "f@V1")))
	wantNew(t, "an old one", spec, "Func f", "Func f@V2")
	wantSlots(t, "an old one", spec, 1, 2, 0)
}

// P10.1: the symbols by the passes: first calls and thread-local ones, then addresses, then refs.
func TestPasses(t *testing.T) {
	spec := funcs(
		fn("f", addr(1, "a1"), call("c1"), tpOf(1, "t1"), addr(1, "c2")),
		fn("g", addr(1, "a2"), tlsOf(1, "t2"), call("c2"), addr(1, "f"), addr(1, "a1")),
	)
	spec.Vars = []api.VarSpec{refer("v", ref(0, "r1", 0), ref(1, "a2", 0), ref(2, "c1", 0)), refer("w", ref(0, "r2", 0), ref(1, "r1", 0), ref(2, "g", 0))}
	wantNew(t, "passes", spec, "Func c1", "TlsVar t1", "TlsVar t2", "Func c2", "Var a1", "Var a2", "Var r1", "Var r2")
	wantSlots(t, "passes", spec, 4, 7)
}

// P10.1, 6: the first pass that fails tells the error.
func TestOrderOfPasses(t *testing.T) {
	wrong := ref(0, "a b", 0)
	spec := lines(addr(1, "a b"))
	spec.Vars = []api.VarSpec{refer("v", wrong)}
	wantSpec(t, "an address and a ref", spec, api.ErrSpecLine)
	spec = lines(call("v"))
	spec.Vars = []api.VarSpec{refer("v", wrong)}
	wantSpec(t, "a call and a ref", spec, api.ErrSpecLine)
	spec = lines(call("x"))
	spec.Vars = []api.VarSpec{refer("v", wrong)}
	wantSpec(t, "a ref alone", spec, api.ErrSpecVar)
	spec = lines(call("x"), tlsOf(1, "y"), addr(2, "x"))
	spec.Vars = []api.VarSpec{refer("v", ref(0, "x", 0), ref(1, "y", 0))}
	wantSpec(t, "a ref to what is thread-local", spec, api.ErrSpecVar)
}
