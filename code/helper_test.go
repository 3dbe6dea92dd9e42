package code_test

import (
	"math"
	"slices"
	"strconv"
	"strings"
	"testing"

	"clevis/api"
	"clevis/code"
)

const (
	least = -1 << 31
	most  = 1<<31 - 1
)

// listed has the instructions as the document lists them, in the order of their numbers.
func listed() []string {
	return []string{
		"halt", "movi rA N", "mov rA rB",
		"add rA rB rC", "sub rA rB rC", "mul rA rB rC", "div rA rB rC", "less rA rB rC", "same rA rB rC",
		"ld rA rB N", "st rA rB N", "ldp rA N", "lea rA N",
		"jmp N", "jz rA N", "call N", "callr rA", "jmpr rA",
		"ret", "out rA", "tp rA", "tls rA rB", "bind N",
	}
}

// sample is a valid instruction with its bytes and its line, both made from the document's list.
type sample struct {
	inst  api.Inst
	bytes []byte
	line  string
}

// sampleOf gives the operands of instruction number op the values a, b, c and n, as far as it has them.
func sampleOf(op, a, b, c, n int) sample {
	row := listed()[op]
	s := sample{inst: api.Inst{Op: api.Op(op)}, bytes: []byte{byte(op), 0, 0, 0, 0, 0, 0, 0}}
	if strings.Contains(row, "rA") {
		s.inst.A, s.bytes[1] = a, byte(a)
	}
	if strings.Contains(row, "rB") {
		s.inst.B, s.bytes[2] = b, byte(b)
	}
	if strings.Contains(row, "rC") {
		s.inst.C, s.bytes[3] = c, byte(c)
	}
	if strings.Contains(row, "N") {
		s.inst.Imm = n
		copy(s.bytes[4:], fourBytes(n))
	}
	s.line = strings.NewReplacer("A", strconv.Itoa(a), "B", strconv.Itoa(b), "C", strconv.Itoa(c), "N", strconv.Itoa(n)).Replace(row) + "\n"
	return s
}

// fourBytes takes the document by its word: a negative number plus 2^32, least significant byte first.
func fourBytes(n int) []byte {
	if n < 0 {
		n += 1 << 32
	}
	b := make([]byte, 4)
	for i := range b {
		b[i] = byte(n % 256)
		n /= 256
	}
	return b
}

// samples are valid instructions of each number, at the edges of their operands and between.
func samples() []sample {
	var all []sample
	for op := range listed() {
		for _, regs := range [][3]int{{0, 0, 0}, {15, 15, 15}, {1, 2, 3}, {0, 15, 7}, {15, 0, 10}, {9, 8, 0}} {
			for _, n := range []int{least, least + 1, -65536, -256, -2, -1, 0, 1, 9, 10, 255, 256, 67305985, most - 1, most} {
				all = append(all, sampleOf(op, regs[0], regs[1], regs[2], n))
			}
		}
	}
	return all
}

// wrongInsts are instructions that are not valid: each is a valid one but for one field.
func wrongInsts() []api.Inst {
	var all []api.Inst
	for _, op := range []int{-1, -2, 23, 24, 255, 256, 256 + 1, 1 << 32, math.MinInt, math.MaxInt} {
		all = append(all, api.Inst{Op: api.Op(op)})
	}
	for op, row := range listed() {
		good := sampleOf(op, 1, 2, 3, -4).inst
		for at, operand := range []string{"rA", "rB", "rC"} {
			for _, r := range wrongNumbers(row, operand, 0, 15) {
				bad := good
				*[]*int{&bad.A, &bad.B, &bad.C}[at] = r
				all = append(all, bad)
			}
		}
		for _, n := range wrongNumbers(row, "N", least, most) {
			bad := good
			bad.Imm = n
			all = append(all, bad)
		}
	}
	return all
}

// wrongNumbers are numbers that the operand may not have, among them such as bytes would cut off; where it is none in that row, it may have 0 only.
func wrongNumbers(row, operand string, first, last int) []int {
	wrong := []int{first - 1, first - 2, last + 1, last + 2, 1 << 32, 1<<32 + 1, -1 << 32, math.MinInt, math.MaxInt}
	if !strings.Contains(row, operand) {
		wrong = append(wrong, 1, -1, 15, 256, least, most)
	}
	return wrong
}

func wantMay(t *testing.T, i api.Inst, want api.Errno) {
	t.Helper()
	if e := code.May(i); e != want {
		t.Errorf("May(%v) is %d, want %d", i, e, want)
	}
}

func wantEncode(t *testing.T, is []api.Inst, want []byte, wantError api.Errno) {
	t.Helper()
	if b, e := code.Encode(is...); !slices.Equal(b, want) || e != wantError {
		t.Errorf("Encode(%v) is %v and %d, want %v and %d", is, b, e, want, wantError)
	}
}

func wantDecode(t *testing.T, b []byte, want []api.Inst, wantError api.Errno) {
	t.Helper()
	if is, e := code.Decode(b); !slices.Equal(is, want) || e != wantError {
		t.Errorf("Decode(%v) is %v and %d, want %v and %d", b, is, e, want, wantError)
	}
}

func wantPrint(t *testing.T, is []api.Inst, want string, wantError api.Errno) {
	t.Helper()
	if text, e := code.Print(is...); text != want || e != wantError {
		t.Errorf("Print(%v) is %q and %d, want %q and %d", is, text, e, want, wantError)
	}
}

func wantParse(t *testing.T, text string, want []api.Inst) {
	t.Helper()
	if is, line, e := code.Parse(text); !slices.Equal(is, want) || line != 0 || e != api.OK {
		t.Errorf("Parse(%q) is %v, %d and %d, want %v, 0 and 0", text, is, line, e, want)
	}
}

func wantParseError(t *testing.T, text string, want int) {
	t.Helper()
	if is, line, e := code.Parse(text); len(is) != 0 || line != want || e != api.ErrCodeText {
		t.Errorf("Parse(%q) is %v, %d and %d, want nothing, %d and %d", text, is, line, e, want, api.ErrCodeText)
	}
}
