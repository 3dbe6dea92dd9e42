package builder_test

import (
	"math"
	"slices"
	"strconv"
	"testing"

	"clevis/api"
)

func shortFuncs(n int) []api.FuncSpec {
	return numbered(n, func(name string) api.FuncSpec { return fn(name, ret()) })
}

func shortVars(n int) []api.VarSpec {
	return numbered(n, func(name string) api.VarSpec { return variable(name, 1) })
}

// P10.1, 1: at most 512 functions and at most 512 variables. (More is an error ahead of that of the flags.)
func TestCounts(t *testing.T) {
	runTries(t, []try{
		{"512 functions", api.OK, funcs(shortFuncs(512)...)},
		{"512 variables", api.OK, vars(shortVars(512)...)},
		{"512 functions, flags", api.ErrSpecName, api.Spec{Flags: 16, Funcs: shortFuncs(512)}},
		{"512 variables, flags", api.ErrSpecName, api.Spec{Flags: 16, Vars: shortVars(512)}},
		{"512 of each, flags", api.ErrSpecName, api.Spec{Flags: 16, Funcs: shortFuncs(512), Vars: shortVars(512)}},
		{"513 functions", api.ErrSpecSize, api.Spec{Flags: 16, Funcs: shortFuncs(513)}},
		{"513 variables", api.ErrSpecSize, api.Spec{Flags: 16, Vars: shortVars(513)}},
		{"513 functions of no kind", api.ErrSpecSize, api.Spec{Flags: -1, Funcs: make([]api.FuncSpec, 513)}},
		{"513 variables of no kind", api.ErrSpecSize, api.Spec{Flags: -1, Vars: make([]api.VarSpec, 513)}},
	})
}

// P10.1, 2: Flags from 0 to 15.
func TestFlags(t *testing.T) {
	for flags := range api.Flags(16) {
		spec := lines(ret())
		spec.Flags = flags
		im := wantSpec(t, "flags "+strconv.Itoa(int(flags)), spec, api.OK)
		if im.Flags != flags {
			t.Errorf("the flags are %d, want %d", im.Flags, flags)
		}
	}
	for _, flags := range []api.Flags{16, 17, 31, 32, 256, 1 << 32, math.MaxInt, -1, -15, -16, math.MinInt} {
		spec := funcs(fn("f"))
		spec.Flags = flags
		wantSpec(t, "flags "+strconv.Itoa(int(flags)), spec, api.ErrSpecName)
	}
}

// P10.1, 3: a function has 1 to 256 lines, which is asked ahead of its symbol.
func TestCountOfLines(t *testing.T) {
	for n, isRight := range map[int]bool{0: false, 1: true, 2: true, 255: true, 256: true, 257: false, 300: false} {
		f := fn("f", slices.Repeat([]api.Line{ret()}, n)...)
		runTries(t, []try{
			{strconv.Itoa(n) + " lines", worse(isRight, api.ErrSpecLine), funcs(f)},
			{strconv.Itoa(n) + " lines of a later one", worse(isRight, api.ErrSpecLine), funcs(fn("g", ret()), f)},
		})
		f.Sym.Kind = api.Var
		want := api.ErrSpecName
		if !isRight {
			want = api.ErrSpecLine
		}
		wantSpec(t, strconv.Itoa(n)+" lines of a Var", funcs(f), want)
	}
}

// symbolTries are the symbols that a definition of a kind may have, and those it may not.
func symbolTries(kind api.SymKind) map[api.Symbol]bool {
	all := map[api.Symbol]bool{
		{Name: "a", Version: "V", Old: true, Kind: kind}:              true,
		{Name: "a", Version: "V", Kind: kind}:                         true,
		{Name: "a", Weak: true, Kind: kind}:                           true,
		{Name: "a", Kind: kind, Vis: api.Protected}:                   true,
		{Name: "a", Kind: kind, Vis: api.Hidden}:                      true,
		{Name: "a", Kind: kind, Vis: 3}:                               false,
		{Name: "a", Kind: kind, Vis: -1}:                              false,
		{Name: "a", Old: true, Kind: kind}:                            false,
		{Name: "a", Kind: kind, Defined: true}:                        true,
		{Name: "a", Kind: kind, Value: -1, Size: -1}:                  true,
		{Name: "a", Kind: kind, Value: 9, Size: 9}:                    true,
		{Name: "a", Kind: kind, Value: math.MinInt, Size: 1 << 40}:    true,
		{Name: long(64), Version: long(64), Kind: kind, Vis: 2}:       true,
		{Name: long(65), Kind: kind}:                                  false,
		{Name: "a", Version: long(65), Kind: kind}:                    false,
		{Name: "a", Version: "V 1", Kind: kind}:                       false,
		{Name: "a@V1", Kind: kind}:                                    false,
		{Name: "", Kind: kind}:                                        false,
		{Name: "", Version: "V1", Kind: kind}:                         false,
		{Name: "a\x00", Kind: kind}:                                   false,
		{Name: "_.A0", Version: "..", Kind: kind, Weak: true}:         true,
		{Name: "a", Version: "@V", Kind: kind, Old: true, Weak: true}: false,
	}
	return all
}

// P10.1, 3: a function is a Func whose symbol, as a Defined one, is valid; what the spec says of its place does not count.
func TestSymbolsOfFuncs(t *testing.T) {
	for s, isRight := range symbolTries(api.Func) {
		f := api.FuncSpec{Sym: s, Lines: []api.Line{ret()}}
		want := worse(isRight, api.ErrSpecName)
		im := wantSpec(t, "symbol "+s.Name+"@"+s.Version, funcs(f), want)
		s.Defined, s.Value, s.Size = true, 0, 8
		if isRight && im.Syms[0] != s {
			t.Errorf("the symbol is %+v, want %+v", im.Syms[0], s)
		}
		wantSpec(t, "later symbol "+s.Name+"@"+s.Version, funcs(fn("g", ret()), f), want)
	}
	for kind, want := range map[api.SymKind]api.Errno{-1: api.ErrSpecName, 0: api.ErrSpecName, api.Func: api.OK, api.Var: api.ErrSpecName, api.TlsVar: api.ErrSpecName, 4: api.ErrSpecName} {
		f := fn("f", ret())
		f.Sym.Kind = kind
		wantSpec(t, "kind "+strconv.Itoa(int(kind)), funcs(f), want)
	}
}

// P10.1, 4: likewise for variables, of both kinds.
func TestSymbolsOfVars(t *testing.T) {
	for _, kind := range []api.SymKind{api.Var, api.TlsVar} {
		for s, isRight := range symbolTries(kind) {
			v := api.VarSpec{Sym: s, Words: []int{1, 2}}
			want := worse(isRight, api.ErrSpecName)
			im := wantSpec(t, "symbol "+s.Name+"@"+s.Version, vars(v), want)
			s.Defined, s.Value, s.Size = true, 64, 16
			if kind == api.TlsVar {
				s.Value = 0
			}
			if isRight && im.Syms[0] != s {
				t.Errorf("the symbol is %+v, want %+v", im.Syms[0], s)
			}
			wantSpec(t, "later symbol "+s.Name+"@"+s.Version, vars(variable("v", 1), v), want)
		}
	}
	for kind, want := range map[api.SymKind]api.Errno{-1: api.ErrSpecName, 0: api.ErrSpecName, api.Func: api.ErrSpecVar, api.Var: api.OK, api.TlsVar: api.OK, 4: api.ErrSpecName} {
		v := variable("v", 1)
		v.Sym.Kind = kind
		wantSpec(t, "kind "+strconv.Itoa(int(kind)), vars(v), want)
	}
}

// P10.1, 3, 4: definitions of one name need different versions, and only one of them may be not old.
func TestClashes(t *testing.T) {
	for _, c := range []struct {
		one, other string
		isRight    bool
	}{
		{"a", "a", false}, {"a", "b", true}, {"a", "a@V1", true}, {"a", "a@@V1", false},
		{"a@V1", "a@V1", false}, {"a@V1", "a@V2", true}, {"a@V1", "a@@V1", false}, {"a@V1", "a@@V2", true},
		{"a@@V1", "a@@V1", false}, {"a@@V1", "a@@V2", false}, {"a@@V1", "b@@V1", true}, {"a@V1", "b@V1", true},
	} {
		want := worse(c.isRight, api.ErrSpecName)
		for _, pair := range [][2]string{{c.one, c.other}, {c.other, c.one}} {
			one, other := pair[0], pair[1]
			what := one + " and " + other
			far := threadLocal("far", 1)
			runTries(t, []try{
				{what, want, funcs(fn(one, ret()), fn(other, ret()))},
				{what + " with one between", want, funcs(fn(one, ret()), fn("x", ret()), fn("y", ret()), fn(other, ret()))},
				{what + ", both variables", want, vars(variable(one, 1), far, variable(other, 2))},
				{what + ", one thread-local", want, vars(variable(one, 1), far, threadLocal(other, 2))},
				{what + ", both thread-local", want, vars(threadLocal(one, 1), threadLocal(other, 2))},
				{what + ", one a function", want, api.Spec{Funcs: []api.FuncSpec{fn(one, ret())}, Vars: []api.VarSpec{far, variable(other, 2)}}},
			})
		}
	}
	all := []string{"a@V1", "a@V2", "a@@V3", "a@V4", "b", "b@V1"}
	var fs []api.FuncSpec
	for _, text := range all {
		fs = append(fs, fn(text, ret()))
	}
	wantSpec(t, "many", funcs(fs...), api.OK)
	for _, text := range append(all, "a", "a@@V9") {
		wantSpec(t, "many and "+text, funcs(append(fs[:len(fs):len(fs)], fn(text, ret()))...), api.ErrSpecName)
	}
}

// P10.1, 4: a variable has 1 to 256 words.
func TestCountOfWords(t *testing.T) {
	for n, isRight := range map[int]bool{0: false, 1: true, 2: true, 255: true, 256: true, 257: false, 300: false} {
		want := worse(isRight, api.ErrSpecVar)
		runTries(t, []try{
			{strconv.Itoa(n) + " words", want, vars(variable("v", make([]int, n)...))},
			{strconv.Itoa(n) + " thread-local words", want, vars(threadLocal("t", make([]int, n)...))},
			{strconv.Itoa(n) + " words of a later one", want, vars(variable("v", 1), variable("w", make([]int, n)...))},
		})
	}
	wantSpec(t, "no words, no name", vars(api.VarSpec{Sym: api.Symbol{Kind: api.Var}}), api.ErrSpecVar)
	wantSpec(t, "no words, a Func", vars(api.VarSpec{Sym: sym(api.Func, "f")}), api.ErrSpecVar)
}

// P10.1, 4: only a program's Var without refs is copied, which is asked ahead of its symbol.
func TestCopied(t *testing.T) {
	for flags := range api.Flags(16) {
		for _, kind := range []api.SymKind{-1, 0, api.Func, api.Var, api.TlsVar, 4} {
			for _, refs := range [][]api.Ref{nil, {}, {ref(0, "x", 0)}, {ref(9, "x", 0)}} {
				for _, name := range []string{"v", "v v"} {
					v := api.VarSpec{Sym: api.Symbol{Name: name, Kind: kind}, Words: []int{5, 6}, Copied: true, Refs: refs}
					spec := vars(v)
					spec.Flags = flags
					isCopy := flags%2 == 1 && kind == api.Var && len(refs) == 0
					want := worse(isCopy, api.ErrSpecVar)
					if isCopy && name == "v v" {
						want = api.ErrSpecName
					}
					wantSpec(t, "copied", spec, want)
				}
			}
		}
	}
}

// P10.1, 4: the words of refs are increasing, and words of the variable.
func TestWordsOfRefs(t *testing.T) {
	for _, c := range []struct {
		words   []int
		isRight bool
	}{
		{nil, true}, {[]int{0}, true}, {[]int{2}, true}, {[]int{3}, false}, {[]int{-1}, false}, {[]int{4}, false},
		{[]int{0, 1}, true}, {[]int{0, 2}, true}, {[]int{0, 1, 2}, true}, {[]int{1, 2}, true},
		{[]int{0, 0}, false}, {[]int{2, 2}, false}, {[]int{1, 0}, false}, {[]int{0, 2, 1}, false}, {[]int{0, 1, 3}, false},
		{[]int{-1, 0}, false}, {[]int{0, -1}, false}, {[]int{1, 2, 2}, false}, {[]int{0, 1, 2, 2}, false}, {[]int{0, 1, 2, 3}, false},
		{[]int{math.MaxInt}, false}, {[]int{math.MinInt}, false}, {[]int{math.MaxInt, 0}, false}, {[]int{0, math.MaxInt, math.MinInt}, false},
	} {
		v := variable("v", 1, 2, 3)
		for _, word := range c.words {
			v.Refs = append(v.Refs, ref(word, "x", 0))
		}
		runTries(t, []try{
			{"refs", worse(c.isRight, api.ErrSpecVar), vars(v)},
			{"refs of a later one", worse(c.isRight, api.ErrSpecVar), vars(variable("w", 1), v)},
		})
		v.Sym.Kind = api.TlsVar
		wantSpec(t, "thread-local refs", vars(v), worse(len(c.words) == 0, api.ErrSpecVar))
		v.Sym.Old = true
		wantSpec(t, "a wrong symbol with refs", vars(v), api.ErrSpecName)
	}
}

// P10.1, 5: each kind of line, and what is none.
func TestKindsOfLines(t *testing.T) {
	for kind := api.LineKind(-2); kind < 8; kind++ {
		want := worse(api.Step <= kind && kind <= api.TpName, api.ErrSpecLine)
		l := api.Line{Kind: kind, Name: "x"}
		runTries(t, []try{
			{"kind " + strconv.Itoa(int(kind)), want, lines(l)},
			{"kind of the last " + strconv.Itoa(int(kind)), want, funcs(fn("f", ret()), fn("g", ret(), ret(), l))},
		})
	}
	for _, kind := range []api.LineKind{math.MinInt, math.MaxInt, 256, 1 << 32} {
		wantSpec(t, "kind "+strconv.Itoa(int(kind)), lines(api.Line{Kind: kind, Name: "x"}), api.ErrSpecLine)
	}
}

// P10.1, 5: each register for each kind of line, whether the line uses it or not.
func TestRegisters(t *testing.T) {
	for kind := api.Step; kind <= api.TpName; kind++ {
		for a := -1; a < 18; a++ {
			want := worse(0 <= a && a <= 15, api.ErrSpecLine)
			wantSpec(t, "register "+strconv.Itoa(a), lines(ret(), api.Line{Kind: kind, A: a, Name: "x"}), want)
		}
		for _, a := range []int{math.MinInt, math.MaxInt, -16, 256, 1 << 32} {
			wantSpec(t, "register "+strconv.Itoa(a), lines(ret(), api.Line{Kind: kind, A: a, Name: "x"}), api.ErrSpecLine)
		}
	}
}

// P10.1, 5: the instruction of a step is valid, and that of another line does not count; nor does the name of a step.
func TestInstructionsOfSteps(t *testing.T) {
	for _, text := range []string{"halt", "movi r15 -2147483648", "add r1 r2 r3", "st r1 r2 8", "call 80", "bind 3", "ret", "tls r1 r2"} {
		im := wantSpec(t, text, lines(step(text)), api.OK)
		if string(im.Segs[0].Bytes) != string(bytesOf(t, text)) {
			t.Errorf("%s is %v", text, im.Segs[0].Bytes)
		}
	}
	for _, i := range []api.Inst{{Op: -1}, {Op: 23}, {Op: api.Ret, A: 1}, {Op: api.Mov, A: 16}, {Op: api.Mov, B: -1}, {Op: api.Movi, Imm: 1 << 31}, {Op: api.Add, Imm: 1}} {
		runTries(t, []try{
			{"a wrong step", api.ErrSpecLine, lines(api.Line{Inst: i})},
			{"a wrong step behind others", api.ErrSpecLine, funcs(fn("f", ret()), fn("g", call("x"), api.Line{Inst: i}))},
			{"a line with a wrong instruction", api.OK, lines(api.Line{Kind: api.CallName, Name: "x", Inst: i})},
			{"a line with a wrong instruction", api.OK, lines(api.Line{Kind: api.AddrName, Name: "x", Inst: i})},
			{"a line with a wrong instruction", api.OK, lines(api.Line{Kind: api.TlsName, Name: "x", Inst: i})},
			{"a line with a wrong instruction", api.OK, lines(api.Line{Kind: api.TpName, Name: "x", Inst: i})},
		})
	}
	wantSpec(t, "a step with a name", lines(api.Line{Inst: inst("ret"), A: 15, Name: "a b", Ver: "@"}), api.OK)
}
