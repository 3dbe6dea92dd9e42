package cpu_test

import (
	"strconv"
	"testing"

	"clevis/api"
)

// P6.1: ld reads the word at B + N, wherever one may read.
func TestLd(t *testing.T) {
	wantStep(t, "ld r1 r2 0", regs{2: dataAt}, becomes(1, fill(dataAt)))
	wantStep(t, "ld r1 r2 8", regs{2: dataAt}, becomes(1, fill(dataAt+8)))
	wantStep(t, "ld r0 r15 -8", regs{15: dataAt + 16}, becomes(0, fill(dataAt+8)))
	wantStep(t, "ld r15 r0 0", regs{0: dataAt + 120}, becomes(15, fill(dataAt+120)))
	wantStep(t, "ld r3 r3 16", regs{3: dataAt}, becomes(3, fill(dataAt+16)))
	wantStep(t, "ld r1 r2 0", regs{2: readAt}, becomes(1, fill(readAt)))
	wantStep(t, "ld r1 r2 0", regs{2: codeAt}, becomes(1, fill(codeAt)))
	wantStep(t, "ld r1 r2 0", regs{2: limit - 8}, becomes(1, fill(limit-8)))
	wantStep(t, "ld r1 r2 8192", regs{2: 0}, becomes(1, fill(readAt)))
	wantStep(t, "ld r1 r2 8292", regs{2: -100}, becomes(1, fill(readAt)))
	wantStep(t, "ld r1 r2 2147483647", regs{2: limit - 8 - (1<<31 - 1)}, becomes(1, fill(limit-8)))
	wantStep(t, "ld r1 r2 -2147483648", regs{2: readAt + 1<<31}, becomes(1, fill(readAt)))
	// A word need not begin at a multiple of its size.
	low, high := uint64(fill(dataAt)), uint64(fill(dataAt+8))
	wantStep(t, "ld r1 r2 3", regs{2: dataAt}, becomes(1, int(low>>24|high<<40)))
}

// P6.1: st writes the word at B + N, wherever one may write, and nothing else.
func TestSt(t *testing.T) {
	for _, n := range []int{0, 1, -1, 258, least, great, 0x0102030405060708} {
		wantStep(t, "st r1 r2 0", regs{1: n, 2: dataAt}, stores(dataAt, n))
		wantStep(t, "st r0 r15 -8", regs{0: n, 15: dataAt + 128}, stores(dataAt+120, n))
		wantStep(t, "st r15 r0 13", regs{15: n, 0: dataAt}, stores(dataAt+13, n))
		wantStep(t, "st r1 r2 8", regs{1: n, 2: writeAt}, stores(writeAt+8, n))
		wantStep(t, "st r1 r2 0", regs{1: n, 2: limit - 8}, stores(limit-8, n))
		wantStep(t, "st r1 r2 12388", regs{1: n, 2: -100}, stores(writeAt, n))
	}
	wantStep(t, "st r3 r3 16", regs{3: dataAt}, stores(dataAt+16, dataAt))
}

func stores(at, n int) outcome {
	return outcome{pc: next, words: words{at: n}}
}

// P6.1: ldp reads the word at Next + N, wherever one may read.
func TestLdp(t *testing.T) {
	wantStep(t, "ldp r1 0", nil, becomes(1, fill(next)))
	wantStep(t, "ldp r0 8", nil, becomes(0, fill(next+8)))
	wantStep(t, "ldp r15 -32", nil, becomes(15, fill(codeAt)))
	wantStep(t, "ldp r2 96", nil, becomes(2, fill(dataAt)))
	wantStep(t, "ldp r2 4064", nil, becomes(2, fill(readAt)))
	// The word of the instruction itself: its bytes are 11 3 0 0 248 255 255 255.
	wantStep(t, "ldp r3 -8", nil, becomes(3, -8<<32|0x030b))
}

// accessing is an instruction and the permission that it needs for the word at the address that it is given; given tells the registers from the address.
type accessing struct {
	line  string
	need  api.Perm
	given func(at int) regs
}

func accessings() []accessing {
	return []accessing{
		{"ld r1 r2 0", api.Read, func(at int) regs { return regs{2: at} }},
		{"ld r1 r2 24", api.Read, func(at int) regs { return regs{2: at - 24} }},
		{"ld r3 r3 -2147483648", api.Read, func(at int) regs { return regs{3: at + 1<<31} }},
		{"st r1 r2 0", api.Write, func(at int) regs { return regs{2: at} }},
		{"st r3 r3 -2147483648", api.Write, func(at int) regs { return regs{3: at + 1<<31} }},
		{"st r15 r0 2147483647", api.Write, func(at int) regs { return regs{0: at - (1<<31 - 1)} }},
		{"call 16", api.Write, func(at int) regs { return regs{15: at + 8} }},
		{"call -4128", api.Write, func(at int) regs { return regs{15: at + 8} }},
		{"callr r1", api.Write, func(at int) regs { return regs{15: at + 8, 1: codeAt} }},
		{"callr r0", api.Write, func(at int) regs { return regs{15: at + 8, 0: 0} }},
		{"callr r15", api.Write, func(at int) regs { return regs{15: at + 8} }},
		{"ret", api.Read, func(at int) regs { return regs{15: at} }},
	}
}

// outside are addresses at which no word lies within a region: sums wrap around on the way to some of them.
func outside() []int {
	return []int{
		0, 8, codeAt - 1, codeAt - 8, dataAt + 128 - 7, dataAt + 127, dataAt + 128, readAt - 8, readAt - 1, readAt + page - 7, readAt + page - 1, readAt + page,
		writeAt + page - 7, noneAt - 1, noneAt + page - 7, execAt + page - 1, limit - 7, limit - 1, limit, limit + 8,
		-1, -8, -7, -codeAt, least, least + 8, great, great - 7, great - 8, 1 << 40, -1 << 40,
		// These reach from one region into another.
		dataAt - 7, dataAt - 4, dataAt - 1,
	}
}

// P6.1: a word that lies in no region, or reaches past its region's end, of each instruction that has one.
func TestAccessOutside(t *testing.T) {
	for _, a := range accessings() {
		for _, where := range outside() {
			wantTrap(t, programAt(t, at, a.line), a.line+" for "+strconv.Itoa(where), contextAt(at, a.given(where)), api.ErrSpaceFree)
		}
	}
	for _, line := range []string{"ldp r1 -4128", "ldp r1 -2147483648", "ldp r1 2147483647", "ldp r15 89", "ldp r0 95", "ldp r1 224", "ldp r1 217"} {
		wantTrap(t, programAt(t, at, line), line, contextAt(at, nil), api.ErrSpaceFree)
	}
}

// P6.1: a word in a region with each permission, of each instruction that has one: without the permission that it needs it traps, and with that alone it does not.
func TestAccessPermissions(t *testing.T) {
	const where = readAt + 8
	for _, a := range accessings() {
		for p := range api.Perm(8) {
			mem := programAt(t, at, a.line)
			wantOK(t, "Protect", mem.Protect(readAt, p))
			what, c := a.line+" with the permission "+strconv.Itoa(int(p)), contextAt(at, a.given(where))
			if p&a.need == 0 {
				wantTrap(t, mem, what, c, api.ErrSpacePerm)
				continue
			}
			wantStepOf(t, mem, what, c, accessed(a.line, where, c))
		}
	}
	for p := range api.Perm(8) {
		const line = "ldp r1 -16"
		mem := memoryOf(t, api.Region{At: codeAt, Size: page, Perm: p | api.Exec})
		putProgram(t, mem, at, line)
		if p&api.Read == 0 {
			wantTrap(t, mem, line, contextAt(at, nil), api.ErrSpacePerm)
		} else {
			wantStepOf(t, mem, line, contextAt(at, nil), becomes(1, fill(at-8)))
		}
	}
}

// accessed is what the lines of accessings do where they may.
func accessed(line string, where int, c api.Context) outcome {
	switch line {
	case "ld r3 r3 -2147483648":
		return becomes(3, fill(where))
	case "ld r1 r2 0", "ld r1 r2 24":
		return becomes(1, fill(where))
	case "st r1 r2 0":
		return stores(where, c.Regs[1])
	case "st r3 r3 -2147483648":
		return stores(where, c.Regs[3])
	case "st r15 r0 2147483647":
		return stores(where, c.Regs[15])
	case "ret":
		return outcome{pc: fill(where), regs: regs{15: where + 8}}
	}
	to := map[string]int{"call 16": next + 16, "call -4128": 0, "callr r1": codeAt, "callr r0": 0, "callr r15": where + 8}
	return outcome{pc: to[line], regs: regs{15: where}, words: words{where: next}}
}

// P6.1: what an instruction writes is seen by those that follow, even where it is one of them or itself.
func TestCodeThatWritesCode(t *testing.T) {
	all := api.Region{At: codeAt, Size: page, Perm: api.Read | api.Write | api.Exec}
	mem := memoryOf(t, all)
	putProgram(t, mem, codeAt, "ldp r1 24\nst r1 r2 0\nhalt\nout r3\nmovi r3 77\n")
	c := contextAt(codeAt, regs{2: codeAt + 16})
	want := contextAt(codeAt+32, regs{2: codeAt + 16, 1: 0x4d00000301, 3: 77})
	wantRun(t, mem, c, 9, want, api.Event{Kind: api.Told, N: 77}, 4)

	// The call is replaced by the address behind it, whose first byte is that of no instruction.
	mem = memoryOf(t, all)
	putProgram(t, mem, codeAt+24, "call -8\n")
	wantStepOf(t, mem, "call -8", contextAt(codeAt+24, regs{15: codeAt + 32}), outcome{
		pc: codeAt + 24, regs: regs{15: codeAt + 24}, words: words{codeAt + 24: codeAt + 32},
	})
	wantTrap(t, mem, "the address", contextAt(codeAt+24, nil), api.ErrCode)

	mem = memoryOf(t, all)
	putProgram(t, mem, codeAt+24, "st r1 r2 0\n")
	wantStepOf(t, mem, "st r1 r2 0", contextAt(codeAt+24, regs{1: 5, 2: codeAt + 24}), outcome{
		pc: codeAt + 32, words: words{codeAt + 24: 5},
	})
}
