package builder_test

import (
	"fmt"
	"math"
	"math/rand/v2"
	"slices"
	"testing"

	"clevis/api"
)

func pick[T any](r *rand.Rand, all ...T) T { return all[r.IntN(len(all))] }

// some returns about half of the texts, in any order.
func some(r *rand.Rand, texts ...string) []string {
	texts = slices.DeleteFunc(texts, func(string) bool { return r.IntN(2) == 0 })
	r.Shuffle(len(texts), func(i, j int) { texts[i], texts[j] = texts[j], texts[i] })
	return texts
}

func someName(r *rand.Rand) string {
	return pick(r, "f", "f@V1", "f@V2", "g", "g@V1", "g@V2", "h", "h@V3", "i", "x", "x@V1", "x@V2", "y")
}

func someLine(r *rand.Rand) api.Line {
	a := r.IntN(16)
	far := pick(r, "t", "t@V1", "u", "u@V2", "s", "s@V1")
	switch r.IntN(6) {
	case 0:
		return step(pick(r, "ret", "out r3", "movi r1 -7", "add r1 r2 r3", "ld r1 r15 8"))
	case 1:
		return tlsOf(a, far)
	case 2:
		return tpOf(a, far)
	case 3:
		return addr(a, pick(r, someName(r), "v", "v@V1", "w", "w@V1", "c", "z", "z@V1"))
	}
	return call(someName(r))
}

func someVar(r *rand.Rand, text string, flags api.Flags) api.VarSpec {
	v := variable(text)
	for range 1 + r.IntN(5) {
		v.Words = append(v.Words, pick(r, 0, 1, -1, r.IntN(1000), int(r.Uint64())))
	}
	if flags%2 == 1 && r.IntN(3) == 0 {
		v.Copied = true
		return v
	}
	for word := range v.Words {
		if r.IntN(3) == 0 {
			v.Refs = append(v.Refs, ref(word, pick(r, someName(r), "v", "v@V1", "w", "z", "z@V1", "a"), pick(r, 0, 8, -8, 1<<32, -1<<32)))
		}
	}
	return v
}

// someSpec is right.
func someSpec(r *rand.Rand) api.Spec {
	s := api.Spec{Name: pick(r, "", "lib.so"), Flags: api.Flags(r.IntN(16)), RunPath: some(r, "/lib", "/a"), Weak: some(r, "x", "z", "s", "f", "v", "none")}
	for _, name := range some(r, "a", "b") {
		s.Needed = append(s.Needed, api.Need{Name: name, Versions: some(r, "V1", "V2")})
	}
	var runs []string
	for _, text := range some(r, "f", "f@V1", "g@@V2", "g@V1", "h@V3", "i") {
		f := fn(text)
		for range 1 + r.IntN(8) {
			f.Lines = append(f.Lines, someLine(r))
		}
		f.Sym.Vis, f.Sym.Weak = api.Vis(r.IntN(3)), r.IntN(2) == 0
		s.Funcs = append(s.Funcs, f)
		if !f.Sym.Old {
			runs = append(runs, f.Sym.Name)
		}
	}
	s.Init, s.Fini = some(r, slices.Clone(runs)...), some(r, runs...)
	for _, text := range some(r, "v", "v@V1", "w@@V1", "c") {
		s.Vars = append(s.Vars, someVar(r, text, s.Flags))
	}
	for _, text := range some(r, "t", "t@V1", "u@@V2") {
		s.Vars = slices.Insert(s.Vars, r.IntN(len(s.Vars)+1), threadLocal(text, make([]int, 1+r.IntN(3))...))
	}
	return s
}

func someText(r *rand.Rand) string {
	return pick(r, "", "f", "g", "v", "t", "x", "V1", "V2", "a b", long(64), long(65))
}

func changeSymbol(r *rand.Rand, s *api.Symbol) {
	switch r.IntN(6) {
	case 0:
		s.Kind = api.SymKind(r.IntN(6) - 1)
	case 1:
		s.Vis = api.Vis(r.IntN(5) - 1)
	case 2:
		s.Old = !s.Old
	case 3:
		s.Version = someText(r)
	case 4:
		s.Name = someText(r)
	case 5:
		s.Defined, s.Value, s.Size = r.IntN(2) == 0, pick(r, -1, 5, math.MinInt), pick(r, -1, 5, math.MaxInt)
	}
}

func changeFunc(r *rand.Rand, f *api.FuncSpec) {
	switch r.IntN(8) {
	case 0:
		f.Lines = pick(r, nil, slices.Repeat([]api.Line{ret()}, 256), slices.Repeat([]api.Line{ret()}, 257))
	case 1:
		f.Lines = append(f.Lines, numbered(pick(r, 100, 129), call)...)
	case 2, 3:
		changeSymbol(r, &f.Sym)
	default:
		l := pick(r, someLine(r), api.Line{Kind: api.LineKind(r.IntN(7) - 1), A: r.IntN(19) - 1, Name: someText(r), Ver: someText(r), Inst: api.Inst{Op: api.Op(r.IntN(25) - 1)}})
		f.Lines = slices.Insert(f.Lines, r.IntN(len(f.Lines)+1), l)
	}
}

func changeVar(r *rand.Rand, v *api.VarSpec) {
	switch r.IntN(7) {
	case 0:
		v.Words = make([]int, pick(r, 0, 1, 255, 256, 257))
	case 1:
		v.Copied = !v.Copied
	case 2, 3:
		changeSymbol(r, &v.Sym)
	case 4:
		v.Words = make([]int, 200)
		v.Refs = nil
		for word := range v.Words {
			v.Refs = append(v.Refs, ref(word, "x", 0))
		}
	default:
		one := api.Ref{Word: pick(r, -1, 0, len(v.Words)-1, len(v.Words), 2), Name: someText(r), Ver: someText(r), Add: pick(r, 0, 1<<32, 1<<32+1, math.MinInt)}
		v.Refs = slices.Insert(v.Refs, r.IntN(len(v.Refs)+1), one)
	}
}

// changeSpec makes a spec worse, perhaps.
func changeSpec(r *rand.Rand, s *api.Spec) {
	switch r.IntN(10) {
	case 0:
		s.Flags = pick[api.Flags](r, -1, 0, 1, 15, 16)
	case 1:
		s.Init = pick(r, append(s.Init, someText(r)), slices.Repeat(s.Init, 5))
	case 2:
		s.Fini = pick(r, append(s.Fini, someText(r)), slices.Repeat(s.Fini, 5))
	case 3:
		s.Name, s.RunPath = someText(r), append(s.RunPath, someText(r))
	case 4:
		s.Vars = append(s.Vars, threadLocal("large1", make([]int, 256)...), threadLocal("large2", make([]int, r.IntN(257))...))
	case 5, 6:
		if len(s.Funcs) > 0 {
			changeFunc(r, &s.Funcs[r.IntN(len(s.Funcs))])
		}
	default:
		if len(s.Vars) > 0 {
			changeVar(r, &s.Vars[r.IntN(len(s.Vars))])
		}
	}
}

// wantModel builds a spec that was changed so often, and returns what came of it.
func wantModel(t *testing.T, r *rand.Rand, changes int) api.Errno {
	t.Helper()
	spec := someSpec(r)
	for range changes {
		changeSpec(r, &spec)
	}
	_, want := modelOf(spec)
	wantSpec(t, "some spec", spec, want)
	if t.Failed() {
		t.Fatalf("%+v", spec)
	}
	return want
}

// P10.1, P10.2: specs of any kind, and changes of them, against the document's words.
func TestSomeSpecs(t *testing.T) {
	r := rand.New(rand.NewPCG(10, 1))
	for range 3000 {
		if e := wantModel(t, r, 0); e != api.OK {
			t.Fatalf("some spec is wrong: %d", e)
		}
	}
	counts := map[api.Errno]int{}
	for range 20000 {
		counts[wantModel(t, r, 1+r.IntN(4))]++
	}
	for _, e := range []api.Errno{
		api.OK, api.ErrSpecName, api.ErrSpecLine, api.ErrSpecVar, api.ErrSpecRun, api.ErrSpecSize,
		api.ErrImageHead, api.ErrImageRelocs, api.ErrImageSlots, api.ErrImageRuns,
	} {
		if counts[e] < 20 {
			t.Errorf("too few of %d: %s", e, fmt.Sprint(counts))
		}
	}
}

// P10.1, P10.2: likewise, from any seed on.
func FuzzSpecs(f *testing.F) {
	f.Add(uint64(1), uint64(2), 0)
	f.Fuzz(func(t *testing.T, one, other uint64, changes int) {
		wantModel(t, rand.New(rand.NewPCG(one, other)), min(changes, 50))
	})
}
