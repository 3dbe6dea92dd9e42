package cpu_test

import (
	"math"
	"strconv"
	"testing"

	"clevis/api"
	"clevis/code"
	"clevis/cpu"
	"clevis/space"
)

// P6.1: at PC 0 nothing is done, whatever the context and the memory.
func TestDone(t *testing.T) {
	done := outcome{event: api.Event{Kind: api.Done}}
	wantStepOf(t, space.New(), "PC 0", api.Context{}, done)
	wantStepOf(t, space.New(), "PC 0", contextAt(0, regs{15: 0}), done)
	wantStepOf(t, memoryOf(t, regionsOf()...), "PC 0", contextAt(0, regs{15: dataAt + 64}), done)
}

// P6.1: a PC that lies in no region, or from which eight bytes reach past its region's end.
func TestFetchOutside(t *testing.T) {
	wantTrap(t, space.New(), "no region", contextAt(codeAt, nil), api.ErrSpaceFree)
	mem := memoryOf(t, regionsOf()...)
	wantOK(t, "Protect", mem.Protect(dataAt, api.Exec))
	for w := codeAt; w < dataAt+2*page; w += 8 {
		putProgram(t, mem, w, "movi r1 5")
	}
	for _, pc := range outside() {
		if pc != 0 {
			wantTrap(t, mem.Copy(), "PC "+strconv.Itoa(pc), contextAt(pc, nil), api.ErrSpaceFree)
		}
	}
	for back := 1; back < 8; back++ {
		for _, end := range []int{dataAt, dataAt + 2*page, execAt + page, noneAt + page, limit} {
			wantTrap(t, mem.Copy(), "near the end", contextAt(end-back, nil), api.ErrSpaceFree)
		}
	}
}

// P6.1: a PC in a region with each permission; the error of the space comes before that of the bytes.
func TestFetchPermissions(t *testing.T) {
	for p := range api.Perm(8) {
		what := "in a region with the permission " + strconv.Itoa(int(p))
		mem := memoryOf(t, api.Region{At: codeAt, Size: page, Perm: p})
		c, wrong := contextAt(at, nil), contextAt(at+8, nil)
		putProgram(t, mem, at, "movi r1 5")
		if p&api.Exec == 0 {
			wantTrap(t, mem, what, c, api.ErrSpacePerm)
			wantTrap(t, mem, what, wrong, api.ErrSpacePerm)
			wantTrap(t, mem, what, contextAt(codeAt+page-1, nil), api.ErrSpaceFree)
			continue
		}
		wantStepOf(t, mem, what, c, becomes(1, 5))
		wantTrap(t, mem, what, wrong, api.ErrCode)
	}
}

// P6.1: an instruction that ends just at its region's end is executed; what follows there is another matter.
func TestFetchAtRegionEnd(t *testing.T) {
	for end, fault := range map[int]api.Errno{dataAt: api.ErrSpacePerm, execAt + page: api.ErrSpaceFree, limit: api.ErrSpaceFree} {
		mem := programAt(t, end-8, "movi r1 5")
		wantStepOf(t, mem, "movi r1 5", contextAt(end-8, nil), outcome{pc: end, regs: regs{1: 5}})
		wantTrap(t, mem, "behind the end", contextAt(end, nil), fault)

		mem = programAt(t, end-8, "lea r1 0")
		wantStepOf(t, mem, "lea r1 0", contextAt(end-8, nil), outcome{pc: end, regs: regs{1: end}})
		mem = programAt(t, end-8, "jmp -16")
		wantStepOf(t, mem, "jmp -16", contextAt(end-8, nil), outcome{pc: end - 16})
		mem = programAt(t, end-8, "call -16")
		wantStepOf(t, mem, "call -16", contextAt(end-8, regs{15: writeAt + 8}), outcome{pc: end - 16, regs: regs{15: writeAt}, words: words{writeAt: end}})
		mem = programAt(t, end-8, "out r1")
		wantStepOf(t, mem, "out r1", contextAt(end-8, regs{1: 3}), outcome{pc: end, event: api.Event{Kind: api.Told, N: 3}})
	}
}

// P6.1: instructions stand wherever there is room for them, not only at multiples of their size.
func TestFetchAnywhere(t *testing.T) {
	for pc := codeAt; pc <= dataAt-8; pc++ {
		mem := programAt(t, pc, "movi r1 -6")
		wantStepOf(t, mem, "movi r1 -6", contextAt(pc, nil), outcome{pc: pc + 8, regs: regs{1: -6}})
	}
}

// wrongBytes are eight bytes each, which differ from an instruction's in one of them.
func wrongBytes(t *testing.T) [][]byte {
	t.Helper()
	var all [][]byte
	for op := range api.Op(23) {
		good, e := code.Encode(api.Inst{Op: op})
		wantOK(t, "Encode", e)
		for at := range good {
			for _, x := range []byte{1, 15, 16, 17, 23, 24, 128, 255} {
				bad := append([]byte(nil), good...)
				bad[at] = x
				if _, e := code.Decode(bad); e != api.OK {
					all = append(all, bad)
				}
			}
		}
	}
	return all
}

// P6.1: bytes that are no instruction.
func TestWrongBytes(t *testing.T) {
	all := wrongBytes(t)
	if len(all) < 23*3 {
		t.Fatalf("only %d are wrong", len(all))
	}
	mem := memoryOf(t, regionsOf()...)
	c := contextAt(at, regs{15: dataAt + 64, 0: dataAt})
	for _, b := range all {
		wantOK(t, "Poke", mem.Poke(at, b...))
		before := mem.Copy()
		got, event := cpu.Step(c, mem)
		if got != c || event != (api.Event{Kind: api.Trapped, Fault: api.ErrCode}) {
			t.Errorf("the bytes %v: %v and %v", b, got, event)
		}
		wantMemory(t, "Step", mem, before)
	}
	wantTrap(t, mem, "wrong bytes", c, api.ErrCode)
}

// P6.1: halt traps; so do bytes that are 0 throughout, which are its own.
func TestHalt(t *testing.T) {
	wantTrap(t, programAt(t, at, "halt"), "halt", contextAt(at, nil), api.ErrCode)
	mem := space.New()
	wantOK(t, "MapAt", mem.MapAt(codeAt, page, api.Exec))
	wantTrap(t, mem, "new bytes", contextAt(codeAt, regs{0: 0}), api.ErrCode)
}

// P6.1: addresses at the ends of an int's range, and sums that wrap around to them: there is never a region.
func TestFarAddresses(t *testing.T) {
	for _, pc := range []int{math.MaxInt, math.MaxInt - 7, math.MaxInt - 8, math.MinInt, -8, 1, 7, codeAt - 8} {
		wantTrap(t, programAt(t, at, "halt"), "far off", contextAt(pc, nil), api.ErrSpaceFree)
	}
	wantTrap(t, programAt(t, at, "call 8"), "call 8", contextAt(at, regs{15: least}), api.ErrSpaceFree)
	wantTrap(t, programAt(t, at, "call 8"), "call 8", contextAt(at, regs{15: least + 7}), api.ErrSpaceFree)
	wantTrap(t, programAt(t, at, "callr r1"), "callr r1", contextAt(at, regs{15: least}), api.ErrSpaceFree)
	wantTrap(t, programAt(t, at, "ret"), "ret", contextAt(at, regs{15: great}), api.ErrSpaceFree)
	wantTrap(t, programAt(t, at, "ld r1 r2 1"), "ld r1 r2 1", contextAt(at, regs{2: great}), api.ErrSpaceFree)
	wantTrap(t, programAt(t, at, "ld r1 r2 -1"), "ld r1 r2 -1", contextAt(at, regs{2: least}), api.ErrSpaceFree)
	wantTrap(t, programAt(t, at, "st r1 r2 2147483647"), "st r1 r2 2147483647", contextAt(at, regs{2: great}), api.ErrSpaceFree)
	wantTrap(t, programAt(t, at, "st r1 r2 -2147483648"), "st r1 r2 -2147483648", contextAt(at, regs{2: least}), api.ErrSpaceFree)
}
