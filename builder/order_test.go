package builder_test

import (
	"slices"
	"testing"

	"clevis/api"
)

// flaw is a change to the full spec that makes one thing wrong.
type flaw struct {
	what   string
	want   api.Errno
	change func(*api.Spec)
}

// flaws are by the order of the promise's parts.
func flaws() []flaw {
	return slices.Concat(flawsOfFuncs(), flawsOfVars(), flawsOfLines(), flawsOfImages())
}

func flawsOfFuncs() []flaw {
	return []flaw{
		{"many functions", api.ErrSpecSize, func(s *api.Spec) { s.Funcs = append(s.Funcs, shortFuncs(510)...) }},
		{"many variables", api.ErrSpecSize, func(s *api.Spec) { s.Vars = append(s.Vars, shortVars(510)...) }},
		{"flags", api.ErrSpecName, func(s *api.Spec) { s.Flags += 16 }},
		{"no lines of f", api.ErrSpecLine, func(s *api.Spec) { s.Funcs[0].Lines = nil }},
		{"kind of f", api.ErrSpecName, func(s *api.Spec) { s.Funcs[0].Sym.Kind = api.Var }},
		{"many lines of g", api.ErrSpecLine, func(s *api.Spec) { s.Funcs[1].Lines = slices.Repeat([]api.Line{ret()}, 257) }},
		{"name of g", api.ErrSpecName, func(s *api.Spec) { s.Funcs[1].Sym.Name = "g g" }},
		{"no lines of the old g", api.ErrSpecLine, func(s *api.Spec) { s.Funcs[2].Lines = []api.Line{} }},
		{"old g is f", api.ErrSpecName, func(s *api.Spec) { s.Funcs[2].Sym = sym(api.Func, "f") }},
		{"many lines of h", api.ErrSpecLine, func(s *api.Spec) { s.Funcs[3].Lines = make([]api.Line, 300) }},
		{"visibility of h", api.ErrSpecName, func(s *api.Spec) { s.Funcs[3].Sym.Vis = 3 }},
	}
}

func flawsOfVars() []flaw {
	return []flaw{
		{"no words of v", api.ErrSpecVar, func(s *api.Spec) { s.Vars[0].Words = nil }},
		{"version of v", api.ErrSpecName, func(s *api.Spec) { s.Vars[0].Sym.Version = "@" }},
		{"refs of v", api.ErrSpecVar, func(s *api.Spec) { s.Vars[0].Refs[0].Word = 2 }},
		{"many words of t", api.ErrSpecVar, func(s *api.Spec) { s.Vars[1].Words = make([]int, 257) }},
		{"old t", api.ErrSpecName, func(s *api.Spec) { s.Vars[1].Sym.Old = true }},
		{"refs of t", api.ErrSpecVar, func(s *api.Spec) { s.Vars[1].Refs = []api.Ref{ref(0, "v", 0)} }},
		{"refs of c", api.ErrSpecVar, func(s *api.Spec) { s.Vars[2].Refs = []api.Ref{ref(0, "v", 0)} }},
		{"c is h", api.ErrSpecName, func(s *api.Spec) { s.Vars[2].Sym.Name = "h" }},
		{"u is a Func", api.ErrSpecVar, func(s *api.Spec) { s.Vars[3].Sym.Kind = api.Func }},
		{"u is copied", api.ErrSpecVar, func(s *api.Spec) { s.Vars[3].Copied = true }},
		{"visibility of u", api.ErrSpecName, func(s *api.Spec) { s.Vars[3].Sym.Vis = -1 }},
		{"w is v", api.ErrSpecName, func(s *api.Spec) { s.Vars[4].Sym.Name = "v" }},
		{"refs of w", api.ErrSpecVar, func(s *api.Spec) { s.Vars[4].Refs[0].Word = 1 }},
	}
}

// lastLine puts a line behind those of h.
func lastLine(l api.Line) func(*api.Spec) {
	return func(s *api.Spec) { s.Funcs[3].Lines = append(s.Funcs[3].Lines, l) }
}

func flawsOfLines() []flaw {
	return []flaw{
		{"an instruction", api.ErrSpecLine, lastLine(api.Line{Inst: api.Inst{Op: 23}})},
		{"a register", api.ErrSpecLine, lastLine(addr(16, "f"))},
		{"a line's kind", api.ErrSpecLine, lastLine(api.Line{Kind: 5})},
		{"a call", api.ErrSpecLine, lastLine(call("v"))},
		{"a thread-local name", api.ErrSpecLine, lastLine(tlsOf(1, "f"))},
		{"a pointer's name", api.ErrSpecLine, lastLine(tpOf(1, "a b"))},
		{"an address", api.ErrSpecLine, lastLine(addr(1, "t"))},
		{"what a ref of v means", api.ErrSpecVar, func(s *api.Spec) { s.Vars[0].Refs[1].Name, s.Vars[0].Refs[1].Ver = "t", "" }},
		{"what a ref of w means", api.ErrSpecVar, func(s *api.Spec) { s.Vars[4].Refs[0].Ver = "V 1" }},
	}
}

func flawsOfImages() []flaw {
	block := func(name string) api.VarSpec { return threadLocal(name, make([]int, 256)...) }
	return []flaw{
		{"Init", api.ErrSpecRun, func(s *api.Spec) { s.Init = append(s.Init, "v") }},
		{"Fini", api.ErrSpecRun, func(s *api.Spec) { s.Fini = append(s.Fini, "ext") }},
		{"many symbols", api.ErrSpecSize, func(s *api.Spec) {
			s.Funcs = append(s.Funcs, fn("calls", numbered(250, func(name string) api.Line { return addr(1, "q"+name) })...))
			s.Funcs = append(s.Funcs, fn("more", numbered(250, func(name string) api.Line { return addr(1, "r"+name) })...))
		}},
		{"much code", api.ErrSpecSize, func(s *api.Spec) {
			for _, name := range numbered(32, func(name string) string { return "z" + name }) {
				s.Funcs = append(s.Funcs, fn(name, slices.Repeat([]api.Line{ret()}, 256)...))
			}
		}},
		{"large blocks", api.ErrSpecSize, func(s *api.Spec) { s.Vars = append(s.Vars, block("t1"), block("t2")) }},
		{"a head", api.ErrImageHead, func(s *api.Spec) { s.Name = "a b" }},
		{"what is needed", api.ErrImageHead, func(s *api.Spec) { s.Needed[1].Name = "" }},
		{"a run path", api.ErrImageHead, func(s *api.Spec) { s.RunPath[0] = long(201) }},
		{"what is added", api.ErrImageRelocs, func(s *api.Spec) { s.Vars[4].Refs[0].Add++ }},
		{"many slots", api.ErrImageSlots, func(s *api.Spec) { s.Funcs = append(s.Funcs, fn("caller", numbered(129, call)...)) }},
		{"many Init", api.ErrImageRuns, func(s *api.Spec) { s.Init = append(s.Init, slices.Repeat([]string{"g"}, 6)...) }},
		{"many Fini", api.ErrImageRuns, func(s *api.Spec) { s.Fini = append(s.Fini, slices.Repeat([]string{"f"}, 8)...) }},
	}
}

// P10.1: the first part that is wrong gives the error: for one flaw, for each two, in either order, and for more and more.
func TestOrderOfErrors(t *testing.T) {
	all := flaws()
	for i, one := range all {
		wantFlawed(t, one.want, one)
		for j, other := range all {
			if i != j {
				wantFlawed(t, all[min(i, j)].want, one, other)
			}
		}
		wantFlawed(t, one.want, all[i:]...)
	}
}

func wantFlawed(t *testing.T, want api.Errno, flaws ...flaw) {
	t.Helper()
	spec := full()
	what := ""
	for _, one := range flaws {
		one.change(&spec)
		what += one.what + ", "
	}
	wantSpec(t, what, spec, want)
}
