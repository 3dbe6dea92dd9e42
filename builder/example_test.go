package builder_test

import (
	"slices"
	"strings"
	"testing"

	"clevis/api"
	"clevis/table"
)

// full has several of everything.
func full() api.Spec {
	s := api.Spec{
		Name:    "lib_full.so.1",
		Flags:   api.Program | api.Now,
		Needed:  []api.Need{{Name: "libc", Versions: []string{"V1", "V_2.0"}}, {Name: "/lib/b"}},
		RunPath: []string{"/lib", "$ORIGIN/x"},
		Funcs: []api.FuncSpec{
			fn("f", step("movi r1 5"), call("ext"), addr(2, "v"), call("f")),
			fn("g@@V2", tlsOf(3, "t"), tpOf(4, "t"), call("ext"), ret()),
			fn("g@V1", call("g@V1"), addr(15, "g@V1"), tlsOf(0, "far")),
			fn("h", addr(5, "v"), addr(6, "lost"), call("g"), ret()),
		},
		Vars: []api.VarSpec{
			variable("v", 1, -2, 3),
			threadLocal("t", 40, 41),
			variable("c", 7, 8),
			threadLocal("u@@V2", -5),
			variable("w", 9),
		},
		Weak: []string{"far", "v", "lost", "nobody"},
		Init: []string{"f", "g", "f"},
		Fini: []string{"h"},
	}
	s.Funcs[1].Sym.Vis, s.Funcs[2].Sym.Weak, s.Funcs[3].Sym.Vis = api.Protected, true, api.Hidden
	s.Vars[0].Refs = []api.Ref{ref(0, "f", 0), ref(2, "lost@V9", -8)}
	s.Vars[2].Copied = true
	s.Vars[3].Sym.Vis = api.Hidden
	s.Vars[4].Refs = []api.Ref{ref(0, "ext", 1<<32)}
	return s
}

// fullCode is written out by hand.
const fullCode = `movi r1 5
call 152
ldp r2 336
call 160
ldp r13 288
ldp r3 272
tls r3 r13
ldp r13 272
tp r4
add r4 r4 r13
call 80
ret
call 112
ldp r15 256
ldp r13 232
ldp r0 216
tls r0 r13
ldp r5 216
ldp r6 224
call 80
ret
ldp r14 208
jmpr r14
bind 0
ldp r14 192
jmpr r14
bind 1
ldp r14 176
jmpr r14
bind 2
ldp r14 160
jmpr r14
bind 3
`

func words(ns ...int) []byte {
	var b []byte
	for _, n := range ns {
		for range 8 {
			b = append(b, byte(n))
			n >>= 8
		}
	}
	return b
}

func fullSyms() []api.Symbol {
	return []api.Symbol{
		{Name: "f", Kind: api.Func, Defined: true, Size: 32},
		{Name: "g", Version: "V2", Kind: api.Func, Vis: api.Protected, Defined: true, Value: 32, Size: 64},
		{Name: "g", Version: "V1", Old: true, Kind: api.Func, Weak: true, Defined: true, Value: 96, Size: 40},
		{Name: "h", Kind: api.Func, Vis: api.Hidden, Defined: true, Value: 136, Size: 32},
		{Name: "v", Kind: api.Var, Defined: true, Value: 416, Size: 24},
		{Name: "t", Kind: api.TlsVar, Defined: true, Size: 16},
		{Name: "c", Kind: api.Var, Defined: true, Value: 440, Size: 16},
		{Name: "u", Version: "V2", Kind: api.TlsVar, Vis: api.Hidden, Defined: true, Value: 16, Size: 8},
		{Name: "w", Kind: api.Var, Defined: true, Value: 456, Size: 8},
		{Name: "ext", Kind: api.Func},
		{Name: "far", Kind: api.TlsVar, Weak: true},
		{Name: "lost", Kind: api.Var, Weak: true},
		{Name: "lost", Version: "V9", Kind: api.Var, Weak: true},
	}
}

// fullImage is what the document says of the full spec, worked out by hand.
func fullImage(t *testing.T) api.Image {
	t.Helper()
	data := append(make([]byte, 96), words(1, -2, 3, 7, 8, 9)...)
	im := api.Image{
		Name:  "lib_full.so.1",
		Flags: 9,
		Segs: []api.Seg{
			{At: 0, Size: 264, Perm: 5, Bytes: bytesOf(t, fullCode)},
			{At: 320, Size: 144, Perm: 3, Bytes: data},
		},
		Needed:  []api.Need{{Name: "libc", Versions: []string{"V1", "V_2.0"}}, {Name: "/lib/b"}},
		RunPath: []string{"/lib", "$ORIGIN/x"},
		Syms:    fullSyms(),
		Relocs: []api.Reloc{
			{At: 320, Kind: api.TlsMod, Sym: 5}, {At: 328, Kind: api.TlsOff, Sym: 5}, {At: 336, Kind: api.TlsTp, Sym: 5},
			{At: 344, Kind: api.TlsMod, Sym: 10}, {At: 352, Kind: api.TlsOff, Sym: 10},
			{At: 360, Kind: api.Abs, Sym: 4}, {At: 368, Kind: api.Abs, Sym: 2}, {At: 376, Kind: api.Abs, Sym: 11},
			{At: 416, Kind: api.Abs, Sym: 0}, {At: 432, Kind: api.Abs, Sym: 12, Add: -8},
			{At: 440, Kind: api.Copy, Sym: 6}, {At: 456, Kind: api.Abs, Sym: 9, Add: 1 << 32},
		},
		Slots:   []api.Slot{{At: 384, Sym: 9, Stub: 184}, {At: 392, Sym: 0, Stub: 208}, {At: 400, Sym: 2, Stub: 232}, {At: 408, Sym: 1, Stub: 256}},
		Init:    []int{0, 32, 0},
		Fini:    []int{136},
		Tls:     words(40, 41, -5),
		TlsSize: 24,
	}
	im.Table, _ = table.Make(im.Syms...)
	return im
}

// P10.1: the chapter's example, byte by byte.
func TestExample(t *testing.T) {
	im := wantSpec(t, "the example", funcs(fn("f", call("g"))), api.OK)
	want := api.Image{
		Segs: []api.Seg{
			{Size: 32, Perm: api.Read | api.Exec, Bytes: bytesOf(t, "call 0\nldp r14 48\njmpr r14\nbind 0\n")},
			{At: 64, Size: 8, Perm: api.Read | api.Write, Bytes: make([]byte, 8)},
		},
		Syms:  []api.Symbol{{Name: "f", Kind: api.Func, Defined: true, Size: 8}, {Name: "g", Kind: api.Func}},
		Slots: []api.Slot{{At: 64, Sym: 1, Stub: 24}},
	}
	want.Table, _ = table.Make(want.Syms...)
	if !same(im, want) {
		t.Errorf("Build is\n%+v, want\n%+v", im, want)
	}
}

// P10.1: everything at once.
func TestFull(t *testing.T) {
	wantImage(t, "a full one", full(), fullImage(t))
}

// P10.1: no function and no variable: a segment of one byte, and nothing else.
func TestNothing(t *testing.T) {
	none, _ := table.Make()
	wantImage(t, "nothing", api.Spec{}, api.Image{Segs: []api.Seg{{Size: 1, Perm: 5}}, Table: none})
	head := api.Spec{Name: "a", Flags: 14, Needed: []api.Need{{Name: "b"}}, RunPath: []string{"/lib"}, Weak: []string{"w", ""}}
	want := api.Image{Name: "a", Flags: 14, Segs: []api.Seg{{Size: 1, Perm: 5}}, Needed: head.Needed, RunPath: head.RunPath, Table: none}
	wantImage(t, "only a head", head, want)
}

// P10.1: variables without functions begin at 64, and thread-local ones need no second segment.
func TestNoFunctions(t *testing.T) {
	want := api.Image{
		Segs:    []api.Seg{{Size: 1, Perm: 5}, {At: 64, Size: 24, Perm: 3, Bytes: words(5, -6, 8)}},
		Syms:    []api.Symbol{{Name: "v", Kind: api.Var, Defined: true, Value: 64, Size: 16}, {Name: "t", Kind: api.TlsVar, Defined: true, Size: 8}, {Name: "w", Kind: api.Var, Defined: true, Value: 80, Size: 8}},
		Tls:     words(7),
		TlsSize: 8,
	}
	want.Table, _ = table.Make(want.Syms...)
	wantImage(t, "variables", vars(variable("v", 5, -6), threadLocal("t", 7), variable("w", 8)), want)
	want.Segs, want.Syms = want.Segs[:1], want.Syms[1:2]
	want.Table, _ = table.Make(want.Syms...)
	wantImage(t, "a thread-local one", vars(threadLocal("t", 7)), want)
}

// P10.1: functions without variables, and with nothing that needs a word.
func TestNoVariables(t *testing.T) {
	want := api.Image{
		Segs: []api.Seg{{Size: 24, Perm: 5, Bytes: bytesOf(t, "out r3\nret\nret\n")}},
		Syms: []api.Symbol{{Name: "f", Kind: api.Func, Defined: true, Size: 16}, {Name: "g", Kind: api.Func, Defined: true, Value: 16, Size: 8}},
		Init: []int{16},
	}
	want.Table, _ = table.Make(want.Syms...)
	spec := funcs(fn("f", step("out r3"), ret()), fn("g", ret()))
	spec.Init = []string{"g"}
	wantImage(t, "steps", spec, want)
}

// P10.1: the second segment begins where the code ends if that is a multiple of 64, and at the next one otherwise.
func TestSecondSegment(t *testing.T) {
	for n := 1; n <= 40; n++ {
		spec := lines(slices.Repeat([]api.Line{ret()}, n)...)
		spec.Vars = []api.VarSpec{variable("v", 3)}
		im := wantSpec(t, strings.Repeat("ret ", n), spec, api.OK)
		want := (8*n + 63) / 64 * 64
		if len(im.Segs) != 2 || im.Segs[0].Size != 8*n || im.Segs[1].At != want || im.Syms[1].Value != want {
			t.Errorf("%d instructions: %+v", n, im.Segs)
		}
	}
}
