package builder_test

import (
	"fmt"
	"slices"
	"testing"

	"clevis/api"
	"clevis/builder"
)

// P10.1, 7: only a function that is not old is run.
func TestNamesOfRuns(t *testing.T) {
	for name, isRight := range map[string]bool{
		"f": true, "g": true, "h": true,
		"o": false, "v": false, "t": false, "x": false, "none": false, "": false, "F": false, "f@V1": false, "g@V1": false, "g@@V1": false, "a b": false,
	} {
		want := worse(isRight, api.ErrSpecRun)
		spec := funcs(fn("f", call("x"), tlsOf(1, "far"), addr(1, "f@V7")), fn("f@V1", ret()), fn("g@@V1", ret()), fn("h", call("o")), fn("o@V1", ret()))
		spec.Vars = []api.VarSpec{variable("v", 1), threadLocal("t", 1)}
		for _, names := range [][]string{{name}, {name, "f"}, {"f", name}, {"f", "g", name, "h"}} {
			spec.Init, spec.Fini = names, nil
			wantSpec(t, "Init of "+name, spec, want)
			spec.Init, spec.Fini = nil, names
			wantSpec(t, "Fini of "+name, spec, want)
			spec.Init, spec.Fini = []string{"f"}, names
			wantSpec(t, "Init and Fini of "+name, spec, want)
		}
	}
	wantSpec(t, "runs of nothing", api.Spec{Init: []string{"f"}}, api.ErrSpecRun)
}

// P10.1, 8: at most 512 symbols, of whatever kind.
func TestCountOfSymbols(t *testing.T) {
	fill := func(fs, vs, extra int) api.Spec {
		s := api.Spec{Funcs: shortFuncs(fs)}
		s.Vars = numbered(vs, func(name string) api.VarSpec { return variable("v"+name, 1) })
		// As many names as are extra, by lines of each kind, and by refs.
		for i := range extra {
			name := fmt.Sprint("x", i)
			l := []api.Line{addr(1, name), tpOf(1, name)}[i%2]
			at := i % (fs + 1)
			if at == fs {
				v := &s.Vars[len(s.Vars)-1]
				v.Refs, v.Words = append(v.Refs, ref(len(v.Refs), name, 0)), append(v.Words, 0)
				continue
			}
			s.Funcs[at].Lines = append(s.Funcs[at].Lines, l)
		}
		return s
	}
	for _, c := range [][3]int{{256, 256, 0}, {512, 0, 0}, {511, 1, 0}, {1, 511, 0}, {400, 100, 12}, {2, 10, 500}, {1, 400, 111}, {511, 0, 1}, {200, 12, 300}} {
		what := fmt.Sprint(c)
		im := wantSpec(t, what, fill(c[0], c[1], c[2]), api.OK)
		if len(im.Syms) != 512 {
			t.Errorf("%s: %d symbols", what, len(im.Syms))
		}
		for i := range c {
			more := c
			more[i]++
			if more[0] > 512 {
				continue
			}
			wantSpec(t, what+" and one more", fill(more[0], more[1], more[2]), api.ErrSpecSize)
		}
	}
	wantSpec(t, "512 of each", api.Spec{Funcs: shortFuncs(512), Vars: numbered(512, func(name string) api.VarSpec { return variable("v"+name, 1) })}, api.ErrSpecSize)
}

// sized has so many instructions, words and thread-local words, and no names.
func sized(insts, words, tls int) api.Spec {
	var s api.Spec
	for i := 0; insts > 0; i++ {
		n := min(insts, 256)
		s.Funcs = append(s.Funcs, fn(fmt.Sprint("f", i), slices.Repeat([]api.Line{step("movi r1 -1")}, n)...))
		insts -= n
	}
	for i := 0; words+tls > 0; i++ {
		if n := min(words, 256); n > 0 {
			s.Vars = append(s.Vars, variable(fmt.Sprint("v", i), slices.Repeat([]int{i}, n)...))
			words -= n
			continue
		}
		n := min(tls, 256)
		s.Vars = append(s.Vars, threadLocal(fmt.Sprint("v", i), slices.Repeat([]int{-i}, n)...))
		tls -= n
	}
	return s
}

// P10.1, 8: the second segment ends at 65536 at the latest, even if it does not exist.
func TestEndOfImage(t *testing.T) {
	for _, c := range []struct {
		insts, words int
		isRight      bool
	}{
		{0, 8184, true}, {0, 8185, false}, {1, 8184, true}, {8, 8184, true}, {9, 8184, false}, {9, 8176, true}, {9, 8177, false},
		{8184, 8, true}, {8184, 9, false}, {8183, 8, true}, {8185, 8, false}, {8185, 1, false},
		{8185, 0, true}, {8191, 0, true}, {8192, 0, true}, {8192, 1, false}, {8193, 0, false}, {8200, 0, false}, {20000, 0, false},
		{4096, 4096, true}, {4096, 4097, false}, {4097, 4096, false}, {4097, 4088, true},
	} {
		what := fmt.Sprint(c)
		im := wantSpec(t, what, sized(c.insts, c.words, 0), worse(c.isRight, api.ErrSpecSize))
		if c.isRight && im.Segs[0].Size != max(1, 8*c.insts) {
			t.Errorf("%s: the first segment has %d bytes", what, im.Segs[0].Size)
		}
	}
	// A cell, a slot and a stub count, too.
	for _, c := range []struct {
		line    api.Line
		words   int
		isRight bool
	}{
		{addr(1, "x"), 8183, true}, {addr(1, "x"), 8184, false},
		{tlsOf(1, "x"), 8182, true}, {tlsOf(1, "x"), 8183, false},
		{tpOf(1, "x"), 8183, true}, {tpOf(1, "x"), 8184, false},
		{call("x"), 8183, true}, {call("x"), 8184, false},
	} {
		s := sized(0, c.words, 0)
		s.Funcs = []api.FuncSpec{fn("main", c.line)}
		wantSpec(t, fmt.Sprint(c), s, worse(c.isRight, api.ErrSpecSize))
	}
	s := sized(8187, 0, 0)
	s.Funcs = append(s.Funcs, fn("main", addr(1, "x")))
	wantSpec(t, "a cell at the end", s, api.ErrSpecSize)
	s = sized(8180, 0, 0)
	s.Funcs = append(s.Funcs, fn("main", call("x")))
	wantSpec(t, "a stub that ends just where the last page begins", s, api.OK)
	s.Funcs[0].Sym.Name, s.Vars = "first", []api.VarSpec{variable("v", make([]int, 7)...)}
	wantSpec(t, "a slot and words up to the end", s, api.OK)
	s.Vars = append(s.Vars, variable("w", 1))
	wantSpec(t, "a slot and words beyond the end", s, api.ErrSpecSize)
}

// P10.1, 8: thread-local variables have at most 4096 bytes.
func TestEndOfTls(t *testing.T) {
	for _, c := range []struct {
		tls     int
		isRight bool
	}{{1, true}, {511, true}, {512, true}, {513, false}, {514, false}, {1024, false}} {
		for _, insts := range []int{0, 1, 100} {
			for _, words := range []int{0, 1, 300} {
				im := wantSpec(t, fmt.Sprint(insts, words, c), sized(insts, words, c.tls), worse(c.isRight, api.ErrSpecSize))
				if c.isRight && (im.TlsSize != 8*c.tls || len(im.Tls) != 8*c.tls) {
					t.Errorf("%d words: the block has %d bytes, and the template %d", c.tls, im.TlsSize, len(im.Tls))
				}
			}
		}
	}
}

// P10.1, 9: the head of the image.
func TestHeadOfImage(t *testing.T) {
	needed := func(n int, needs ...api.Need) api.Spec { return api.Spec{Needed: slices.Repeat(needs, n)} }
	path := func(n int, paths ...string) api.Spec { return api.Spec{RunPath: slices.Repeat(paths, n)} }
	full := api.Need{Name: long(200), Versions: slices.Repeat([]string{long(64)}, 16)}
	over := api.Need{Name: "b", Versions: slices.Repeat([]string{"V"}, 17)}
	runTries(t, []try{
		{"a name", api.OK, api.Spec{Name: long(64)}},
		{"a long name", api.ErrImageHead, api.Spec{Name: long(65)}},
		{"a wrong name", api.ErrImageHead, api.Spec{Name: "/lib"}},
		{"16 needed", api.OK, needed(16, full)},
		{"17 needed", api.ErrImageHead, needed(17, api.Need{Name: "b"})},
		{"17 versions", api.ErrImageHead, needed(1, over)},
		{"a wrong version", api.ErrImageHead, needed(1, api.Need{Name: "b", Versions: []string{"V 1"}})},
		{"no name needed", api.ErrImageHead, needed(1, api.Need{})},
		{"a long name needed", api.ErrImageHead, needed(1, api.Need{Name: long(201)})},
		{"16 paths", api.OK, path(16, long(200))},
		{"17 paths", api.ErrImageHead, path(17, "/lib")},
		{"an empty path", api.ErrImageHead, path(1, "/lib", "")},
		{"a long path", api.ErrImageHead, path(1, long(201))},
	})
}

// P10.1, 9: at most 512 relocations, of cells and of variables.
func TestCountOfRelocs(t *testing.T) {
	for n, want := range map[int]api.Errno{511: api.OK, 512: api.OK, 513: api.ErrImageRelocs, 600: api.ErrImageRelocs} {
		refs := vars()
		for left := n; left > 0; left -= 200 {
			v := variable(fmt.Sprint("v", left), make([]int, 200)...)
			for word := range min(left, 200) {
				v.Refs = append(v.Refs, ref(word, "v", 0))
			}
			refs.Vars = append(refs.Vars, v)
		}
		wantSpec(t, fmt.Sprint(n, " refs"), refs, want)
		// 200 modules and offsets, and one address or copy more each.
		cells := funcs(fn("f", numbered(200, func(name string) api.Line { return tlsOf(1, name) })...))
		cells.Flags = api.Program
		cells.Vars = numbered(n-400, func(name string) api.VarSpec { return variable("v"+name, 1) })
		cells.Funcs = append(cells.Funcs, fn("g", ret()))
		for i := range cells.Vars {
			if i%2 == 0 {
				cells.Vars[i].Copied = true
			} else {
				cells.Funcs[1].Lines = append(cells.Funcs[1].Lines, addr(1, cells.Vars[i].Sym.Name))
			}
		}
		wantSpec(t, fmt.Sprint(n, " cells and copies"), cells, want)
	}
}

// P10.1, 9: the number that is added in a ref.
func TestAdds(t *testing.T) {
	for add, isRight := range map[int]bool{0: true, 1: true, -1: true, 1 << 32: true, -1 << 32: true, 1<<32 + 1: false, -1<<32 - 1: false, 1<<63 - 1: false, -1 << 63: false} {
		for _, name := range []string{"x", "v"} {
			im := wantSpec(t, fmt.Sprint("add ", add), vars(refer("v", ref(0, name, 5), ref(1, name, add))), worse(isRight, api.ErrImageRelocs))
			if isRight && im.Relocs[1].Add != add {
				t.Errorf("Add is %d, want %d", im.Relocs[1].Add, add)
			}
		}
	}
}

// P10.1, 9: at most 128 slots.
func TestCountOfSlots(t *testing.T) {
	for n, want := range map[int]api.Errno{127: api.OK, 128: api.OK, 129: api.ErrImageSlots, 200: api.ErrImageSlots} {
		calls := numbered(n, call)
		im := wantSpec(t, fmt.Sprint(n, " calls"), lines(calls...), want)
		if want == api.OK && len(im.Slots) != n {
			t.Errorf("%d calls: %d slots", n, len(im.Slots))
		}
		wantSpec(t, fmt.Sprint(n, " calls in two functions"), funcs(fn("f", calls[:60]...), fn("g", calls[40:]...)), want)
	}
}

// P10.1, 9: at most eight Init and at most eight Fini.
func TestCountOfRuns(t *testing.T) {
	for n := range 12 {
		spec := lines(ret())
		spec.Init, spec.Fini = slices.Repeat([]string{"main"}, n), slices.Repeat([]string{"main"}, 8)
		want := worse(n <= 8, api.ErrImageRuns)
		wantSpec(t, fmt.Sprint(n, " Init"), spec, want)
		spec.Init, spec.Fini = spec.Fini, spec.Init
		wantSpec(t, fmt.Sprint(n, " Fini"), spec, want)
	}
}

// W1: as many names as lines and refs can have, all of them different, and as many weak ones.
func TestManyNames(t *testing.T) {
	var s api.Spec
	for i := range 512 {
		prefix := fmt.Sprint("f", i, ".")
		s.Funcs = append(s.Funcs, fn(prefix, numbered(256, func(name string) api.Line { return call(prefix + name) })...))
		v := variable("v"+prefix, make([]int, 256)...)
		for word := range v.Words {
			v.Refs = append(v.Refs, ref(word, fmt.Sprint("r", prefix, word), 0))
		}
		s.Vars = append(s.Vars, v)
	}
	s.Weak = numbered(300000, func(name string) string { return name })
	for _, want := range []api.Errno{api.ErrSpecSize, api.ErrSpecVar, api.ErrSpecLine} {
		im, e := builder.Build(s)
		if e != want || im.Syms != nil {
			t.Errorf("Build is %d, want %d", e, want)
		}
		switch want {
		case api.ErrSpecSize:
			s.Vars[511].Refs[255].Ver = "V 1"
		case api.ErrSpecVar:
			s.Funcs[511].Lines[255].Ver = "V 1"
		}
	}
}
