package builder_test

import (
	"fmt"
	"slices"
	"testing"

	"clevis/api"
	"clevis/builder"
	"clevis/cpu"
	"clevis/space"
)

// Where things are that the image does not have.
const (
	stackAt   = 1 << 24
	stackTop  = stackAt + 1024
	outsideAt = 1 << 25
	blockAt   = 1 << 26
	pointer   = blockAt + 512 // the thread pointer, behind the blocks
	ownModule = 7
	farModule = 9
)

// process is an image that was loaded by hand at a base, with one function and one variable from outside, and all thread-local ones.
type process struct {
	t     *testing.T
	im    api.Image
	base  int
	mem   *space.Space
	out   []int
	binds []int // slots that were bound
}

func (p *process) must(e api.Errno) {
	p.t.Helper()
	if e != api.OK {
		p.t.Fatalf("the space has an error: %d", e)
	}
}

func load(t *testing.T, spec api.Spec, base int) *process {
	t.Helper()
	im, e := builder.Build(spec)
	if e != api.OK {
		t.Fatalf("Build is %d", e)
	}
	p := &process{t: t, im: im, base: base, mem: space.New()}
	for _, s := range im.Segs {
		p.must(p.mem.MapAt(base+s.At, s.Size, s.Perm))
		if len(s.Bytes) > 0 {
			p.must(p.mem.Poke(base+s.At, s.Bytes...))
		}
	}
	p.must(p.mem.MapAt(stackAt, 1024, 3))
	p.must(p.mem.MapAt(outsideAt, 64, 5))
	p.must(p.mem.Poke(outsideAt, bytesOf(t, "movi r9 7\nout r9\nret")...))
	p.must(p.mem.MapAt(blockAt, 512, 3))
	p.must(p.mem.Poke(p.block(ownModule), append(im.Tls, 0)...))
	p.must(p.mem.PokeWord(p.block(farModule)+24, 77))
	for _, r := range im.Relocs {
		p.must(p.mem.PokeWord(base+r.At, p.word(r)))
	}
	for _, s := range im.Slots {
		p.must(p.mem.PokeWord(base+s.At, base+s.Stub))
	}
	return p
}

// block returns where the thread's block of a module is.
func (p *process) block(module int) int {
	return map[int]int{ownModule: blockAt, farModule: blockAt + 256}[module]
}

// address returns where a function or a variable is.
func (p *process) address(sym int) int {
	if s := p.im.Syms[sym]; s.Defined {
		return p.base + s.Value
	}
	return outsideAt
}

// word returns what a relocation puts into its word. A thread-local variable from outside is at 24 in its block.
func (p *process) word(r api.Reloc) int {
	module, offset := farModule, 24
	if s := p.im.Syms[r.Sym]; s.Defined {
		module, offset = ownModule, s.Value
	}
	switch r.Kind {
	case api.Abs:
		return p.address(r.Sym) + r.Add
	case api.TlsMod:
		return module
	case api.TlsOff:
		return offset + r.Add
	case api.TlsTp:
		return p.block(module) + offset + r.Add - pointer
	}
	p.t.Fatalf("a relocation of kind %d", r.Kind)
	return 0
}

// run calls the first function with what the registers have, and returns what they have afterwards.
func (p *process) run(regs [api.Regs]int) [api.Regs]int {
	p.t.Helper()
	c := api.Context{PC: p.base, TP: pointer, Regs: regs}
	c.Regs[api.RegStack] = stackTop - 8
	p.must(p.mem.SetWord(stackTop-8, 0))
	for range 1000 {
		after, event, _ := cpu.Run(c, p.mem, 1000)
		c = after
		switch event.Kind {
		case api.Told:
			p.out = append(p.out, event.N)
		case api.AskTls:
			c.Regs[event.A] = p.block(c.Regs[event.A]) + c.Regs[event.B]
		case api.AskBind:
			p.binds = append(p.binds, event.N)
			slot := p.im.Slots[event.N]
			p.must(p.mem.PokeWord(p.base+slot.At, p.address(slot.Sym)))
			c.PC = p.address(slot.Sym)
		case api.Done:
			return c.Regs
		default:
			p.t.Fatalf("the run is %+v at %d", event, c.PC-p.base)
		}
	}
	p.t.Fatal("the run does not end")
	return regs
}

func bases() []int { return []int{4096, 4160, 3 << 20, 1<<32 - 1<<17} }

// wantRun wants a first run to report this, and to bind these slots, and a second one to report the same and to bind none.
func wantRun(t *testing.T, what string, spec api.Spec, out, binds []int) {
	t.Helper()
	for _, base := range bases() {
		p := load(t, spec, base)
		p.run([api.Regs]int{})
		if !slices.Equal(p.out, out) || !slices.Equal(p.binds, binds) {
			t.Errorf("%s at %d: the run reports %d and binds %d, want %d and %d", what, base, p.out, p.binds, out, binds)
		}
		p.out, p.binds = nil, nil
		p.run([api.Regs]int{})
		if !slices.Equal(p.out, out) || p.binds != nil {
			t.Errorf("%s at %d: the second run reports %d and binds %d", what, base, p.out, p.binds)
		}
	}
}

// P10.2: each line gives its register what it states, and leaves the others alone but for r13 and r14.
func TestEffectsOfLines(t *testing.T) {
	var before [api.Regs]int
	for r := range before {
		before[r] = 100 + r
	}
	before[api.RegStack] = stackTop
	for _, base := range bases() {
		for a := range 15 {
			for _, c := range []struct {
				what  string
				line  api.Line
				spoil int // a register that the line may use for itself
				want  int
			}{
				{"AddrName", addr(a, "v"), a, base + 128},
				{"AddrName of a function", addr(a, "main"), a, base},
				{"AddrName of what is outside", addr(a, "x"), a, outsideAt},
				{"TlsName", tlsOf(a, "t"), api.RegTmp, blockAt + 8},
				{"TlsName of what is outside", tlsOf(a, "x"), api.RegTmp, blockAt + 256 + 24},
				{"TpName", tpOf(a, "t"), api.RegTmp, blockAt + 8},
				{"TpName of what is outside", tpOf(a, "x"), api.RegTmp, blockAt + 256 + 24},
			} {
				// Register 13 itself cannot be asked for where the line uses it on its way.
				if a == api.RegTmp && c.spoil == a && c.line.Kind != api.AddrName {
					continue
				}
				spec := funcs(fn("main", append([]api.Line{c.line}, slices.Repeat([]api.Line{ret()}, 4)...)...))
				spec.Vars = []api.VarSpec{threadLocal("s", 1), threadLocal("t", 2), variable("v", 3)}
				p := load(t, spec, base)
				want := c.want
				if c.line.Name == "v" {
					want = base + p.im.Syms[3].Value
				}
				wantRegs(t, fmt.Sprint(c.what, " to r", a, " at ", base), before, p.run(before), map[int]int{a: want}, c.spoil)
			}
		}
		p := load(t, lines(call("x"), ret()), base)
		wantRegs(t, "CallName", before, p.run(before), map[int]int{9: 7}, api.RegJump)
	}
}

func wantRegs(t *testing.T, what string, before, after [api.Regs]int, want map[int]int, spoil int) {
	t.Helper()
	for r := range after {
		expected, isSet := want[r]
		if !isSet {
			expected = before[r]
		}
		if after[r] != expected && (isSet || r != spoil) {
			t.Errorf("%s: r%d is %d, want %d", what, r, after[r], expected)
		}
	}
}

// P10.2: calls of what is outside, of the image's own functions, and of the function itself, bound when they are first used.
func TestRunOfCalls(t *testing.T) {
	wantRun(t, "a call", lines(step("movi r1 2"), step("out r1"), call("g"), ret()), []int{2, 7}, []int{0})
	spec := funcs(
		fn("main", step("movi r1 3"), call("count"), call("x"), call("both@V1"), call("both"), ret()),
		// count reports r1 and calls itself with one less, until it is 0.
		fn("count", step("out r1"), step("jz r1 24"), step("movi r2 1"), step("sub r1 r1 r2"), call("count"), ret()),
		fn("both@V1", step("movi r3 -1"), step("out r3"), call("x"), ret()),
		fn("both@@V2", step("movi r3 -2"), step("out r3"), ret()),
	)
	wantRun(t, "calls", spec, []int{3, 2, 1, 0, 7, -1, 7, -2}, []int{0, 1, 2, 3})
}

// P10.2: words of variables, those of other symbols among them, by their addresses.
func TestRunOfVariables(t *testing.T) {
	spec := lines(
		addr(1, "v"), step("ld r2 r1 0"), step("out r2"), step("ld r2 r1 16"), step("out r2"),
		// The word between is the address of w's second word.
		step("ld r1 r1 8"), step("ld r2 r1 0"), step("out r2"),
		addr(3, "main"), addr(4, "w"), step("ld r5 r4 0"), step("same r6 r3 r5"), step("out r6"), step("callr r0"), ret(),
	)
	spec.Funcs[0].Lines = slices.Insert(spec.Funcs[0].Lines, 13, addr(0, "end"))
	spec.Funcs = append(spec.Funcs, fn("end", addr(1, "x"), step("callr r1"), ret()))
	spec.Vars = []api.VarSpec{variable("v", 5, 0, -6), threadLocal("t", 1), variable("w", 0, 8, 9)}
	spec.Vars[0].Refs = []api.Ref{ref(1, "w", 8)}
	spec.Vars[2].Refs = []api.Ref{ref(0, "main", 0)}
	wantRun(t, "variables", spec, []int{5, -6, 8, 1, 7}, nil)
}

// P10.2: thread-local variables, by their module and by the thread pointer, are the same.
func TestRunOfThreadLocals(t *testing.T) {
	spec := lines(
		tlsOf(1, "t"), step("ld r2 r1 0"), step("out r2"),
		tpOf(3, "t"), step("ld r2 r3 8"), step("out r2"), step("same r4 r1 r3"), step("out r4"),
		tpOf(5, "far"), step("ld r2 r5 0"), step("out r2"), tlsOf(6, "far"), step("same r4 r5 r6"), step("out r4"), ret(),
	)
	spec.Vars = []api.VarSpec{threadLocal("s", 1, 2), variable("v", 3), threadLocal("t", 40, 41)}
	wantRun(t, "thread-local variables", spec, []int{40, 41, 1, 77, 1}, nil)
}
