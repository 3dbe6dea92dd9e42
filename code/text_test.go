package code_test

import (
	"slices"
	"strings"
	"testing"

	"clevis/api"
	"clevis/code"
)

// P4.1: the line of each instruction alone, by the document's list.
func TestPrintOne(t *testing.T) {
	for _, s := range samples() {
		wantPrint(t, []api.Inst{s.inst}, s.line, api.OK)
	}
}

// P4.1: lines that are written out by hand.
func TestPrintByHand(t *testing.T) {
	wantPrint(t, []api.Inst{{Op: api.Halt}}, "halt\n", api.OK)
	wantPrint(t, []api.Inst{{Op: api.Movi, A: 1, Imm: -2}}, "movi r1 -2\n", api.OK)
	wantPrint(t, []api.Inst{{Op: api.Movi}}, "movi r0 0\n", api.OK)
	wantPrint(t, []api.Inst{{Op: api.Less, A: 10, C: 15}}, "less r10 r0 r15\n", api.OK)
	wantPrint(t, []api.Inst{{Op: api.Ld, A: 1, B: 15, Imm: -2147483648}, {Op: api.Ret}}, "ld r1 r15 -2147483648\nret\n", api.OK)
	wantPrint(t, []api.Inst{{Op: api.Bind, Imm: 2147483647}}, "bind 2147483647\n", api.OK)
}

// P4.1: no instructions have no lines, and many have all of theirs, in order.
func TestPrintMany(t *testing.T) {
	wantPrint(t, nil, "", api.OK)
	wantPrint(t, []api.Inst{}, "", api.OK)
	var is []api.Inst
	var want strings.Builder
	for _, s := range samples() {
		is = append(is, s.inst)
		want.WriteString(s.line)
	}
	wantPrint(t, is, want.String(), api.OK)
}

// P4.1 with W3: one instruction that is not valid, wherever it stands, leaves no lines.
func TestPrintRefuses(t *testing.T) {
	good := api.Inst{Op: api.Tls, A: 1, B: 2}
	for _, i := range wrongInsts() {
		for _, is := range [][]api.Inst{{i}, {i, good}, {good, i}, {good, i, good}} {
			wantPrint(t, is, "", api.ErrCode)
		}
	}
}

// P4.2: the instruction of each line alone, with and without a byte 10 at its end.
func TestParseOne(t *testing.T) {
	for _, s := range samples() {
		wantParse(t, s.line, []api.Inst{s.inst})
		wantParse(t, strings.TrimSuffix(s.line, "\n"), []api.Inst{s.inst})
	}
}

// P4.2: the empty string has no instructions, and many lines have as many, in order; the last one with a byte 10 or without.
func TestParseMany(t *testing.T) {
	wantParse(t, "", nil)
	wantParse(t, "ret\nret", []api.Inst{{Op: api.Ret}, {Op: api.Ret}})
	wantParse(t, "mov r1 r2\nhalt\n", []api.Inst{{Op: api.Mov, A: 1, B: 2}, {}})
	var text strings.Builder
	var want []api.Inst
	for _, s := range samples() {
		text.WriteString(s.line)
		want = append(want, s.inst)
	}
	wantParse(t, text.String(), want)
	wantParse(t, strings.TrimSuffix(text.String(), "\n"), want)
}

// wrongLines are no lines of valid instructions.
func wrongLines() []string {
	return []string{
		// names
		"", " ", "nop", "Halt", "HALT", "hal", "halts", "movi", "0", "r1", "-", "\x00", "halt\x00", "hält", "\xff",
		// spaces and other bytes that are no part of a line
		" halt", "halt ", "halt\r", "halt\t", "\thalt", "\rhalt", "halt\v", "halt\u00a0", "mov r1  r2", "mov  r1 r2", "mov r1 r2 ", " mov r1 r2",
		"mov\tr1 r2", "mov r1\tr2", "mov r1,r2", "mov r1, r2", "movi r1 5 ", "movi r1  5", "movi r1 5\r", "jmp  5", "jmp 5 ", "jmp ", "jmp5", "outr1", "ret#",
		// too few or too many operands
		"halt 0", "halt r0", "ret 0", "ret r1", "movi r1", "movi 5", "movi r1 5 0", "movi r1 r2 5", "mov", "mov r1", "mov r1 r2 r3", "mov r1 r2 0",
		"add r1 r2", "add r1 r2 r3 r4", "add r1 r2 r3 0", "add r1 r2 r3 r4 r5", "add r1 r2 r3 r4 5 6", "ld r1 5", "ld r1 r2", "ld r1 r2 r3 5", "ld r1 r2 5 6", "ldp r1", "ldp r1 r2 5",
		"jmp", "jmp 5 6", "jmp r1 5", "jz 5", "jz r1", "jz r1 r2 5", "callr", "callr r1 r2", "callr r1 0", "tls r1", "tls r1 r2 r3", "tls r1 r2 0", "bind", "bind r1 0", "bind 0 0",
		// operands of another kind
		"movi 1 5", "movi r1 r5", "mov r1 2", "mov 1 r2", "mov R1 r2", "mov rr1 r2", "mov r r2", "mov r1 r", "mov 1r r2", "mov x1 r2", "mov r1 rA", "jmp r5", "call f", "out 1", "ld 5 r1 r2",
		// registers
		"out r16", "out r-1", "out r-0", "out r+1", "out r00", "out r01", "out r015", "out r99", "out r256", "out r4294967296", "out r18446744073709551616", "out r 1", "out r1.", "out r0x1", "out r1_0", "out r١",
		"add r16 r2 r3", "add r1 r16 r3", "add r1 r2 r16", "add r-1 r2 r3", "add r1 r-1 r3", "add r1 r2 r-1", "add r01 r2 r3", "add r1 r02 r3", "add r1 r2 r03",
		// numbers
		"jmp +5", "jmp -0", "jmp +0", "jmp 00", "jmp 05", "jmp -05", "jmp --5", "jmp - 5", "jmp -", "jmp +", "jmp 5-", "jmp 0x5", "jmp 0b1", "jmp 0o7", "jmp 1_0", "jmp 1e3", "jmp 5.", "jmp 5.0", "jmp ٥", "jmp five",
		"movi r1 2147483648", "movi r1 -2147483649", "movi r1 4294967295", "movi r1 4294967296", "movi r1 9223372036854775807", "movi r1 9223372036854775808", "movi r1 -9223372036854775808", "movi r1 -9223372036854775809", "movi r1 18446744073709551616",
		"bind 2147483648", "bind -2147483649", "bind -00", "bind 007",
	}
}

// P4.2: a line that is wrong, alone, with a byte 10 behind it and among others; its number is told, and nothing else.
func TestParseRefuses(t *testing.T) {
	for _, line := range wrongLines() {
		if line != "" {
			wantParseError(t, line, 1)
		}
		wantParseError(t, line+"\n", 1)
		wantParseError(t, line+"\nhalt", 1)
		wantParseError(t, "halt\n"+line+"\nhalt\n", 2)
		wantParseError(t, "halt\nret\nmovi r1 -2\n"+line+"\n", 4)
	}
}

// P4.2: of several lines that are wrong the first one is told.
func TestParseTellsFirst(t *testing.T) {
	wantParseError(t, "jmp 05\nnop\n\n", 1)
	wantParseError(t, "halt\n\nnop\n", 2)
	wantParseError(t, "halt\nhalt\nnop\nout r16", 3)
	wantParseError(t, strings.Repeat("ret\n", 999)+"\n", 1000)
}

// P4.2: empty lines, wherever they stand, are not lines of instructions.
func TestParseOfEmptyLines(t *testing.T) {
	wantParseError(t, "\n", 1)
	wantParseError(t, "\n\n", 1)
	wantParseError(t, "\nhalt\n", 1)
	wantParseError(t, "halt\n\n", 2)
	wantParseError(t, "halt\n\nhalt\n", 2)
	wantParseError(t, "halt\nhalt\n\n", 3)
}

// P4.2: the examples of the document.
func TestParseExamples(t *testing.T) {
	wantParseError(t, "add r1 r2 r16", 1)
	wantParseError(t, "halt\n\n", 2)
	wantParseError(t, "mov r1  r2", 1)
}

// P4.2 with W1: texts that are long and wrong come to an end.
func TestParseOfLongTexts(t *testing.T) {
	wantParseError(t, strings.Repeat(" ", 1<<20), 1)
	wantParseError(t, "halt"+strings.Repeat(" ", 1<<20), 1)
	wantParseError(t, "jmp "+strings.Repeat("0", 1<<20), 1)
	wantParseError(t, "jmp "+strings.Repeat("9", 1<<20), 1)
	wantParseError(t, strings.Repeat("\n", 1<<20), 1)
	wantParseError(t, strings.Repeat("h", 1<<20), 1)
}

// P4.1, P4.2 with W6: arguments stay as they are, and results are memory of their own.
func TestTextsShareNothing(t *testing.T) {
	is := []api.Inst{{Op: api.Movi, A: 1, Imm: 5}, {Op: api.Ret}, {Op: api.Out, A: 99}}
	was := slices.Clone(is)
	wantPrint(t, is[:2], "movi r1 5\nret\n", api.OK)
	if !slices.Equal(is, was) {
		t.Errorf("Print changed its arguments: %v", is)
	}
	one, _, _ := code.Parse("movi r1 5\nret\n")
	two, _, _ := code.Parse("movi r1 5\nret\n")
	clear(one)
	if !slices.Equal(two, was[:2]) {
		t.Errorf("instructions of another call: %v", two)
	}
}
