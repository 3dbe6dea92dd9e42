package builder_test

import (
	"slices"
	"strconv"
	"testing"

	"clevis/api"
)

// wantCode wants just these instructions.
func wantCode(t *testing.T, what string, spec api.Spec, text string) {
	t.Helper()
	im := wantSpec(t, what, spec, api.OK)
	if want := bytesOf(t, text); string(im.Segs[0].Bytes) != string(want) || im.Segs[0].Size != len(want) {
		t.Errorf("%s: the code is %v, want %v", what, im.Segs[0].Bytes, want)
	}
}

func wantRelocs(t *testing.T, what string, spec api.Spec, want ...api.Reloc) {
	t.Helper()
	if im := wantSpec(t, what, spec, api.OK); !slices.Equal(im.Relocs, want) {
		t.Errorf("%s: the relocations are %+v, want %+v", what, im.Relocs, want)
	}
}

// P10.1: the instructions of each kind of line, alone.
func TestCodeOfLines(t *testing.T) {
	wantCode(t, "Step", lines(step("st r1 r15 -8")), "st r1 r15 -8")
	wantCode(t, "CallName", lines(call("x")), "call 0\nldp r14 48\njmpr r14\nbind 0")
	for _, a := range []int{0, 1, 7, 13, 14, 15} {
		reg := "r" + strconv.Itoa(a)
		wantCode(t, "AddrName", lines(addr(a, "x")), "ldp "+reg+" 56")
		wantCode(t, "TlsName", lines(tlsOf(a, "x")), "ldp r13 64\nldp "+reg+" 48\ntls "+reg+" r13")
		wantCode(t, "TpName", lines(tpOf(a, "x")), "ldp r13 56\ntp "+reg+"\nadd "+reg+" "+reg+" r13")
	}
	// The register of a call is not used.
	l := call("x")
	l.A = 15
	wantCode(t, "CallName with a register", lines(l), "call 0\nldp r14 48\njmpr r14\nbind 0")
}

// P10.1: the cells, each once: first those of the first pass, a module ahead of its offset, then the addresses.
func TestCells(t *testing.T) {
	spec := funcs(
		fn("f", addr(1, "v"), tpOf(1, "t"), tlsOf(2, "t"), addr(2, "f"), tlsOf(3, "t")),
		fn("g", tlsOf(1, "u"), addr(1, "x"), tpOf(2, "u"), tpOf(3, "t"), addr(3, "v")),
	)
	spec.Vars = []api.VarSpec{variable("v", 1), threadLocal("t", 2)}
	// 11 and 11 instructions are 176 bytes; the symbols are f, g, v, t, u, x.
	wantRelocs(t, "cells", spec,
		api.Reloc{At: 192, Kind: api.TlsTp, Sym: 3},
		api.Reloc{At: 200, Kind: api.TlsMod, Sym: 3},
		api.Reloc{At: 208, Kind: api.TlsOff, Sym: 3},
		api.Reloc{At: 216, Kind: api.TlsMod, Sym: 4},
		api.Reloc{At: 224, Kind: api.TlsOff, Sym: 4},
		api.Reloc{At: 232, Kind: api.TlsTp, Sym: 4},
		api.Reloc{At: 240, Kind: api.Abs, Sym: 2},
		api.Reloc{At: 248, Kind: api.Abs, Sym: 0},
		api.Reloc{At: 256, Kind: api.Abs, Sym: 5},
	)
	im := wantSpec(t, "cells", spec, api.OK)
	if im.Segs[1].At != 192 || im.Segs[1].Size != 80 || im.Syms[2].Value != 264 {
		t.Errorf("the second segment is %+v", im.Segs[1])
	}
}

// P10.1: one cell for each symbol, not for each name, and for each kind of cell.
func TestCellsOfOneSymbol(t *testing.T) {
	spec := funcs(fn("f@@V1", addr(1, "f"), addr(2, "f@V1"), addr(3, "f@V2"), addr(4, "f")))
	wantRelocs(t, "names of one symbol", spec, api.Reloc{At: 64, Sym: 0}, api.Reloc{At: 72, Sym: 1})
	// What is called, and what a ref means, is in no cell.
	spec = lines(call("main"), addr(1, "x"))
	spec.Vars = []api.VarSpec{refer("v", ref(1, "x", 5))}
	wantRelocs(t, "a call and a ref", spec, api.Reloc{At: 64, Sym: 2}, api.Reloc{At: 64 + 8 + 8 + 8, Sym: 2, Add: 5})
}

// P10.1: the jumps, each once, with a slot and a stub each, in the order of the calls.
func TestJumps(t *testing.T) {
	spec := funcs(fn("f@@V1", call("x"), call("f"), call("x"), call("f@V1")), fn("g", call("y"), call("g"), call("x"), call("x@V2")))
	im := wantSpec(t, "jumps", spec, api.OK)
	// 8 calls are 64 bytes, and 5 stubs are 120: the symbols are f, g, x, y, x@V2.
	want := []api.Slot{{At: 192, Sym: 2, Stub: 80}, {At: 200, Sym: 0, Stub: 104}, {At: 208, Sym: 3, Stub: 128}, {At: 216, Sym: 1, Stub: 152}, {At: 224, Sym: 4, Stub: 176}}
	if !slices.Equal(im.Slots, want) {
		t.Errorf("the slots are %+v, want %+v", im.Slots, want)
	}
	if im.Syms[0].Size != 32 || im.Syms[1].Size != 32 || im.Segs[0].Size != 184 || im.Segs[1].Size != 40 || len(im.Relocs) != 0 {
		t.Errorf("the image is %+v", im)
	}
	wantCode(t, "jumps", spec, `call 56
call 72
call 40
call 56
call 72
call 88
call 8
call 96
ldp r14 120
jmpr r14
bind 0
ldp r14 104
jmpr r14
bind 1
ldp r14 88
jmpr r14
bind 2
ldp r14 72
jmpr r14
bind 3
ldp r14 56
jmpr r14
bind 4
`)
}

// P10.1: the variables and their relocations, in order, with those that are thread-local apart.
func TestVariables(t *testing.T) {
	spec := vars(variable("a", 1, 2), threadLocal("t", 3), variable("c", 4, 5, 6), variable("b", -1, 1<<62, 7), threadLocal("u", -8, 9))
	spec.Flags = api.Program
	spec.Vars[2].Copied = true
	spec.Vars[0].Refs = []api.Ref{ref(1, "b", -1<<32)}
	spec.Vars[3].Refs = []api.Ref{ref(0, "b", 8), ref(1, "a@V", 0), ref(2, "c", 1<<32)}
	wantRelocs(t, "variables", spec,
		api.Reloc{At: 72, Kind: api.Abs, Sym: 3, Add: -1 << 32},
		api.Reloc{At: 80, Kind: api.Copy, Sym: 2},
		api.Reloc{At: 104, Kind: api.Abs, Sym: 3, Add: 8},
		api.Reloc{At: 112, Kind: api.Abs, Sym: 5},
		api.Reloc{At: 120, Kind: api.Abs, Sym: 2, Add: 1 << 32},
	)
	im := wantSpec(t, "variables", spec, api.OK)
	if string(im.Segs[1].Bytes) != string(words(1, 2, 4, 5, 6, -1, 1<<62, 7)) || im.Segs[1].Size != 64 {
		t.Errorf("the second segment is %+v", im.Segs[1])
	}
	if string(im.Tls) != string(words(3, -8, 9)) || im.TlsSize != 24 {
		t.Errorf("the template is %v and %d", im.Tls, im.TlsSize)
	}
	var got [][2]int
	for _, s := range im.Syms {
		got = append(got, [2]int{s.Value, s.Size})
	}
	if want := [][2]int{{64, 16}, {0, 8}, {80, 24}, {104, 24}, {8, 16}, {0, 0}}; !slices.Equal(got, want) {
		t.Errorf("the places are %d, want %d", got, want)
	}
}

// P10.1: words of each byte.
func TestBytesOfWords(t *testing.T) {
	spec := vars(variable("v", 0x0807060504030201, -1, -2), threadLocal("t", 0x1122334455667788))
	im := wantSpec(t, "words", spec, api.OK)
	want := []byte{1, 2, 3, 4, 5, 6, 7, 8, 255, 255, 255, 255, 255, 255, 255, 255, 254, 255, 255, 255, 255, 255, 255, 255}
	if !slices.Equal(im.Segs[1].Bytes, want) || !slices.Equal(im.Tls, []byte{0x88, 0x77, 0x66, 0x55, 0x44, 0x33, 0x22, 0x11}) {
		t.Errorf("the words are %v and %v", im.Segs[1].Bytes, im.Tls)
	}
}

// P10.1: Init and Fini are where the functions are that are not old, as often as they are named.
func TestRuns(t *testing.T) {
	spec := funcs(fn("f@V1", ret()), fn("f@@V2", ret(), ret()), fn("g@@V1", ret()), fn("h", ret()))
	spec.Init, spec.Fini = []string{"h", "f", "g", "f"}, []string{"g", "g"}
	im := wantSpec(t, "runs", spec, api.OK)
	if !slices.Equal(im.Init, []int{32, 8, 24, 8}) || !slices.Equal(im.Fini, []int{24, 24}) {
		t.Errorf("Init is %d, Fini is %d", im.Init, im.Fini)
	}
	spec = funcs(fn("f", ret()), fn("f@V1", ret()))
	spec.Funcs[0].Sym.Vis = api.Hidden
	spec.Init, spec.Fini = []string{"f"}, []string{"f"}
	im = wantSpec(t, "hidden runs", spec, api.OK)
	if !slices.Equal(im.Init, []int{0}) || !slices.Equal(im.Fini, []int{0}) {
		t.Errorf("Init is %d, Fini is %d", im.Init, im.Fini)
	}
}
