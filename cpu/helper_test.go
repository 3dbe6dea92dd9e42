package cpu_test

import (
	"slices"
	"testing"

	"clevis/api"
	"clevis/code"
	"clevis/cpu"
	"clevis/space"
)

const (
	page  = 64
	limit = 1 << 32
	least = -1 << 63
	great = 1<<63 - 1

	// The regions of a memory, by what may be done with them; behind that of the code follows that of the data at once.
	codeAt  = 4096
	dataAt  = codeAt + 2*page
	readAt  = 8192
	writeAt = 12288
	noneAt  = 16384
	execAt  = 20480
	lastAt  = limit - page

	// An instruction that is tried stands at at.
	at   = codeAt + 24
	next = at + 8
)

type regs map[int]int

type words map[int]int

// outcome is what one instruction leaves: registers and words that are not named are as they were.
type outcome struct {
	pc    int
	regs  regs
	words words
	event api.Event
}

func regionsOf() []api.Region {
	return []api.Region{
		{At: codeAt, Size: 2 * page, Perm: api.Read | api.Exec},
		{At: dataAt, Size: 2 * page, Perm: api.Read | api.Write},
		{At: readAt, Size: page, Perm: api.Read},
		{At: writeAt, Size: page, Perm: api.Write},
		{At: noneAt, Size: page},
		{At: execAt, Size: page, Perm: api.Exec},
		{At: lastAt, Size: page, Perm: api.Read | api.Write | api.Exec},
	}
}

// fill is the word that a memory has at at: no two are the same, some are negative, and none begins as an instruction does.
func fill(at int) int {
	return int(uint64(at)*0x9e3779b97f4a7c15 | 0x80)
}

// memoryOf maps the regions, and fills them.
func memoryOf(t *testing.T, rs ...api.Region) *space.Space {
	t.Helper()
	mem := space.New()
	for _, r := range rs {
		wantOK(t, "MapAt", mem.MapAt(r.At, r.Size, r.Perm))
		for w := r.At; w < r.At+r.Size; w += 8 {
			wantOK(t, "PokeWord", mem.PokeWord(w, fill(w)))
		}
	}
	return mem
}

// programAt is a memory that has the lines of text from at on.
func programAt(t *testing.T, at int, text string) *space.Space {
	t.Helper()
	mem := memoryOf(t, regionsOf()...)
	putProgram(t, mem, at, text)
	return mem
}

func putProgram(t *testing.T, mem *space.Space, at int, text string) {
	t.Helper()
	is, line, e := code.Parse(text)
	if e != api.OK {
		t.Fatalf("line %d of %q is wrong", line, text)
	}
	b, e := code.Encode(is...)
	wantOK(t, "Encode", e)
	wantOK(t, "Poke", mem.Poke(at, b...))
}

// contextAt gives the registers that are not named numbers by which they can be told apart.
func contextAt(pc int, given regs) api.Context {
	c := api.Context{PC: pc, TP: 7654321}
	for r := range c.Regs {
		c.Regs[r] = 1000003 * (r + 1)
	}
	for r, n := range given {
		c.Regs[r] = n
	}
	return c
}

// wantStep tries the instruction with Step, and with a Run of one step.
func wantStep(t *testing.T, line string, given regs, want outcome) {
	t.Helper()
	wantStepOf(t, programAt(t, at, line), line, contextAt(at, given), want)
}

func wantStepOf(t *testing.T, mem *space.Space, what string, c api.Context, want outcome) {
	t.Helper()
	wantContext := c
	wantContext.PC = want.pc
	for r, n := range want.regs {
		wantContext.Regs[r] = n
	}
	wantMem := mem.Copy()
	for at, n := range want.words {
		wantOK(t, "PokeWord", wantMem.PokeWord(at, n))
	}
	wantStepAndRun(t, mem, what, c, wantContext, wantMem, want.event)
}

// wantTrap tries an instruction that changes nothing.
func wantTrap(t *testing.T, mem *space.Space, what string, c api.Context, fault api.Errno) {
	t.Helper()
	wantStepAndRun(t, mem, what, c, c, mem.Copy(), api.Event{Kind: api.Trapped, Fault: fault})
}

func wantStepAndRun(t *testing.T, mem *space.Space, what string, c, wantContext api.Context, wantMem *space.Space, want api.Event) {
	t.Helper()
	other := mem.Copy()
	got, event := cpu.Step(c, mem)
	if got != wantContext || event != want {
		t.Errorf("Step of %q: %v and %v, want %v and %v", what, got, event, wantContext, want)
	}
	wantMemory(t, "Step of "+what, mem, wantMem)
	count := 1
	switch {
	case want.Kind == api.Done || want.Kind == api.Trapped:
		count = 0
	case want.Kind == api.Ran && wantContext.PC == 0:
		want.Kind = api.Done
	case want.Kind == api.Ran:
		want.Kind = api.Spent
	}
	wantRun(t, other, c, 1, wantContext, want, count)
	wantMemory(t, "Run of "+what, other, wantMem)
}

func wantRun(t *testing.T, mem *space.Space, c api.Context, most int, wantContext api.Context, want api.Event, wantCount int) {
	t.Helper()
	got, event, count := cpu.Run(c, mem, most)
	if got != wantContext || event != want || count != wantCount {
		t.Errorf("Run with %d from %d: %v, %v and %d, want %v, %v and %d", most, c.PC, got, event, count, wantContext, want, wantCount)
	}
}

func wantMemory(t *testing.T, what string, got, want *space.Space) {
	t.Helper()
	rs := want.Regions()
	if !slices.Equal(got.Regions(), rs) {
		t.Fatalf("%s: the regions are %v, want %v", what, got.Regions(), rs)
	}
	for _, r := range rs {
		a, e := got.Peek(r.At, r.Size)
		wantOK(t, "Peek", e)
		b, e := want.Peek(r.At, r.Size)
		wantOK(t, "Peek", e)
		if !slices.Equal(a, b) {
			t.Errorf("%s: the bytes of the region %v are %v, want %v", what, r, a, b)
		}
	}
}

func wantOK(t *testing.T, what string, e api.Errno) {
	t.Helper()
	if e != api.OK {
		t.Fatalf("%s is %d, want OK", what, e)
	}
}

// becomes is what an instruction does that goes on behind itself and changes one register.
func becomes(r, n int) outcome {
	return outcome{pc: next, regs: regs{r: n}}
}

func tells(event api.Event) outcome {
	return outcome{pc: next, event: event}
}

// moves is what a jump does that changes nothing but PC.
func moves(pc int) outcome {
	return outcome{pc: pc}
}
