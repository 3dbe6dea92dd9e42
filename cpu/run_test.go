package cpu_test

import (
	"testing"

	"clevis/api"
	"clevis/cpu"
	"clevis/space"
)

func event(kind api.EventKind) api.Event {
	return api.Event{Kind: kind}
}

// P6.1 and P6.2: the chapter's examples.
func TestExamples(t *testing.T) {
	mem := programAt(t, codeAt, "movi r1 5\nout r1")
	wantRun(t, mem, contextAt(codeAt, nil), 9, contextAt(4112, regs{1: 5}), api.Event{Kind: api.Told, N: 5}, 2)

	c, e := cpu.Step(contextAt(at, regs{3: 0}), programAt(t, at, "div r1 r2 r3"))
	if c != contextAt(at, regs{3: 0}) || e != (api.Event{Kind: api.Trapped, Fault: api.ErrArg}) {
		t.Errorf("a division by 0: %v and %v", c, e)
	}

	mem = programAt(t, at, "ret")
	wantOK(t, "PokeWord", mem.PokeWord(dataAt, 0))
	c, e = cpu.Step(contextAt(at, regs{15: dataAt}), mem)
	if c != contextAt(0, regs{15: dataAt + 8}) || e != event(api.Ran) {
		t.Errorf("ret: %v and %v", c, e)
	}
	other, e := cpu.Step(c, mem)
	if other != c || e != event(api.Done) {
		t.Errorf("the step behind it: %v and %v", other, e)
	}
}

// P6.2: runs of no steps, at an address and at 0.
func TestRunOfNoSteps(t *testing.T) {
	for _, most := range []int{0, -1, -2, -1000, least} {
		for _, line := range []string{"movi r1 5", "out r1", "halt", "ret", "bind 1", "jmp -8"} {
			mem := programAt(t, at, line)
			before := mem.Copy()
			c := contextAt(at, regs{15: dataAt})
			wantRun(t, mem, c, most, c, event(api.Spent), 0)
			wantMemory(t, line, mem, before)
		}
		for _, pc := range []int{1, -1, codeAt - 8, noneAt, least, great} {
			wantRun(t, space.New(), contextAt(pc, nil), most, contextAt(pc, nil), event(api.Spent), 0)
		}
		wantRun(t, space.New(), contextAt(0, nil), most, contextAt(0, nil), event(api.Done), 0)
	}
	for _, most := range []int{1, 2, 10000, great} {
		wantRun(t, space.New(), contextAt(0, nil), most, contextAt(0, nil), event(api.Done), 0)
	}
}

// endings are the lines that end a run in each way, the event, and how many instructions that adds to the count.
func endings() []struct {
	line   string
	event  api.Event
	length int
} {
	return []struct {
		line   string
		event  api.Event
		length int
	}{
		{"out r3", api.Event{Kind: api.Told, N: 3}, 1},
		{"tls r4 r5", api.Event{Kind: api.AskTls, A: 4, B: 5}, 1},
		{"bind 6", api.Event{Kind: api.AskBind, N: 6}, 1},
		{"bind 0", api.Event{Kind: api.AskBind}, 1},
		{"halt", api.Event{Kind: api.Trapped, Fault: api.ErrCode}, 0},
		{"div r1 r2 r0", api.Event{Kind: api.Trapped, Fault: api.ErrArg}, 0},
		{"ld r1 r0 0", api.Event{Kind: api.Trapped, Fault: api.ErrSpaceFree}, 0},
		{"st r1 r9 0", api.Event{Kind: api.Trapped, Fault: api.ErrSpacePerm}, 0},
	}
}

// P6.2: three steps and one that ends the run in each way, in runs of fewer steps, of just as many and of more. What follows is not executed.
func TestRunEndings(t *testing.T) {
	for _, end := range endings() {
		mem := programAt(t, codeAt, "movi r3 1\nadd r3 r3 r3\nmovi r3 3\n"+end.line+"\nmovi r3 9\nout r3\n")
		before := mem.Copy()
		given := regs{0: 0, 9: readAt}
		for most, r3 := range []int{1000003 * 4, 1, 2, 3} {
			wantRun(t, mem, contextAt(codeAt, given), most, contextAt(codeAt+8*most, regs{0: 0, 9: readAt, 3: r3}), event(api.Spent), most)
		}
		wantContext := contextAt(codeAt+24+8*end.length, regs{0: 0, 9: readAt, 3: 3})
		for _, most := range []int{4, 5, 6, 100, 10000, great} {
			wantRun(t, mem, contextAt(codeAt, given), most, wantContext, end.event, 3+end.length)
		}
		for _, most := range []int{1, 2, great} {
			wantRun(t, mem, contextAt(codeAt+24, regs{0: 0, 9: readAt, 3: 3}), most, wantContext, end.event, end.length)
		}
		wantMemory(t, end.line, mem, before)
	}
}

// P6.2: a run that comes to the address 0, with its last step or before it.
func TestRunDone(t *testing.T) {
	for text, steps := range map[string]int{
		"movi r1 5\njmp -4112\n":             2,
		"movi r1 5\ncall 8\nhalt\njmpr r0\n": 3,
		"movi r1 5\nret\n":                   2,
		"movi r1 5\nmov r2 r2\ncallr r0\n":   3,
		"movi r1 5\njz r0 -4112\n":           2,
	} {
		for _, most := range []int{steps, steps + 1, steps + 2, 10000, great} {
			mem := programAt(t, codeAt, text)
			wantOK(t, "PokeWord", mem.PokeWord(dataAt+64, 0))
			c, e, count := cpu.Run(contextAt(codeAt, regs{0: 0, 15: dataAt + 64}), mem, most)
			if c.PC != 0 || c.Regs[1] != 5 || e != event(api.Done) || count != steps {
				t.Errorf("Run of %q with %d: %v, %v and %d", text, most, c, e, count)
			}
		}
		mem := programAt(t, codeAt, text)
		c, e, count := cpu.Run(contextAt(codeAt, regs{0: 0, 15: dataAt + 64}), mem, steps-1)
		if c.PC == 0 || e != event(api.Spent) || count != steps-1 {
			t.Errorf("Run of %q with %d: %v, %v and %d", text, steps-1, c, e, count)
		}
	}
}

// P6.2: an instruction that reports or requests something ends the run as such, even if it is the last step.
func TestRunReportsAtLast(t *testing.T) {
	mem := programAt(t, codeAt, "out r1\nout r2\nbind 3\n")
	c := contextAt(codeAt, nil)
	for at, want := range []api.Event{{Kind: api.Told, N: 2000006}, {Kind: api.Told, N: 3000009}, {Kind: api.AskBind, N: 3}} {
		next := c
		next.PC += 8
		wantRun(t, mem, c, 1, next, want, 1)
		wantRun(t, mem, c, 10-at, next, want, 1)
		c = next
	}
}

// P6.2: a run without an end takes all its steps, and a loop as many as it has.
func TestRunLoops(t *testing.T) {
	for _, most := range []int{1, 2, 999, 10000, 10001} {
		wantRun(t, programAt(t, at, "jmp -8"), contextAt(at, nil), most, contextAt(at, nil), event(api.Spent), most)
	}
	// The sum of the numbers from 100 down to 1.
	const text = "movi r1 100\nmovi r2 0\nmovi r3 1\njz r1 24\nadd r2 r2 r1\nsub r1 r1 r3\njmp -32\nout r2\n"
	want := contextAt(codeAt+64, regs{1: 0, 2: 5050, 3: 1})
	wantRun(t, programAt(t, codeAt, text), contextAt(codeAt, nil), 10000, want, api.Event{Kind: api.Told, N: 5050}, 3+4*100+2)
}

// P6.1 and P6.2: a function that calls itself, by its own stack.
func TestRunRecursion(t *testing.T) {
	// f: if r1 is 0 return 1, else return r1 times f of r1 - 1.
	const text = "call 16\nout r2\nhalt\n" +
		"jz r1 80\n" + "movi r4 8\n" + "sub r15 r15 r4\n" + "st r1 r15 0\n" + "movi r3 1\n" + "sub r1 r1 r3\n" + "call -56\n" +
		"ld r1 r15 0\n" + "movi r4 8\n" + "add r15 r15 r4\n" + "jmp 16\n" + "movi r2 1\n" + "ret\n" + "mul r2 r2 r1\n" + "ret\n"
	mem := memoryOf(t, api.Region{At: codeAt, Size: 4 * page, Perm: api.Exec}, api.Region{At: readAt, Size: 1024, Perm: api.Read | api.Write})
	putProgram(t, mem, codeAt, text)
	c, e, _ := cpu.Run(contextAt(codeAt, regs{1: 10, 15: readAt + 1024}), mem, 10000)
	if c.PC != codeAt+16 || c.Regs[15] != readAt+1024 || e != (api.Event{Kind: api.Told, N: 3628800}) {
		t.Errorf("the product of the numbers from 1 to 10: %v and %v", c, e)
	}
}
