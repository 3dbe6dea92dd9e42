package code_test

import (
	"slices"
	"strings"
	"testing"

	"clevis/api"
	"clevis/code"
)

// P4.1: instructions of each number are valid, with all their operands at the edges and between.
func TestMayOfValid(t *testing.T) {
	for _, s := range samples() {
		wantMay(t, s.inst, api.OK)
	}
}

// P4.1: each register from 0 to 15 may be an operand.
func TestMayOfEachRegister(t *testing.T) {
	for r := range 16 {
		wantMay(t, api.Inst{Op: api.Same, A: r}, api.OK)
		wantMay(t, api.Inst{Op: api.Same, B: r}, api.OK)
		wantMay(t, api.Inst{Op: api.Same, C: r}, api.OK)
	}
}

// P4.1: numbers of no instruction, registers and numbers beyond their ends, and fields that are no operands.
func TestMayOfWrong(t *testing.T) {
	for _, i := range wrongInsts() {
		wantMay(t, i, api.ErrCode)
	}
}

// P4.1: the bytes of each instruction alone, by the document's list.
func TestEncodeOne(t *testing.T) {
	for _, s := range samples() {
		wantEncode(t, []api.Inst{s.inst}, s.bytes, api.OK)
	}
}

// P4.1: bytes that are written out by hand.
func TestEncodeByHand(t *testing.T) {
	for _, c := range []struct {
		inst api.Inst
		want []byte
	}{
		{api.Inst{Op: api.Halt}, []byte{0, 0, 0, 0, 0, 0, 0, 0}},
		{api.Inst{Op: api.Movi, A: 1, Imm: -2}, []byte{1, 1, 0, 0, 254, 255, 255, 255}},
		{api.Inst{Op: api.Add, A: 1, B: 2, C: 3}, []byte{3, 1, 2, 3, 0, 0, 0, 0}},
		{api.Inst{Op: api.St, A: 15, B: 14, Imm: 0x01020304}, []byte{10, 15, 14, 0, 4, 3, 2, 1}},
		{api.Inst{Op: api.Jmp, Imm: -1 << 31}, []byte{13, 0, 0, 0, 0, 0, 0, 128}},
		{api.Inst{Op: api.Bind, Imm: 1<<31 - 1}, []byte{22, 0, 0, 0, 255, 255, 255, 127}},
	} {
		wantEncode(t, []api.Inst{c.inst}, c.want, api.OK)
	}
}

// P4.1: no instructions have no bytes, and many have all of theirs, in order.
func TestEncodeMany(t *testing.T) {
	wantEncode(t, nil, nil, api.OK)
	wantEncode(t, []api.Inst{}, nil, api.OK)
	var is []api.Inst
	var want []byte
	for _, s := range samples() {
		is, want = append(is, s.inst), append(want, s.bytes...)
	}
	wantEncode(t, is, want, api.OK)
}

// P4.1 with W3: one instruction that is not valid, wherever it stands, leaves no bytes.
func TestEncodeRefuses(t *testing.T) {
	good := api.Inst{Op: api.Movi, A: 1, Imm: 5}
	for _, i := range wrongInsts() {
		for _, is := range [][]api.Inst{{i}, {i, good}, {good, i}, {good, i, good}} {
			wantEncode(t, is, nil, api.ErrCode)
		}
	}
}

// P4.2: the instruction of each eight bytes alone, by the document's list.
func TestDecodeOne(t *testing.T) {
	for _, s := range samples() {
		wantDecode(t, s.bytes, []api.Inst{s.inst}, api.OK)
	}
}

// P4.2: no bytes are those of no instructions, and many eights those of as many, in order.
func TestDecodeMany(t *testing.T) {
	wantDecode(t, nil, nil, api.OK)
	wantDecode(t, []byte{}, nil, api.OK)
	var b []byte
	var want []api.Inst
	for _, s := range samples() {
		b, want = append(b, s.bytes...), append(want, s.inst)
	}
	wantDecode(t, b, want, api.OK)
}

// P4.2: a length that is no multiple of 8.
func TestDecodeOfWrongLength(t *testing.T) {
	b := make([]byte, 40)
	for n := range len(b) + 1 {
		if n%8 == 0 {
			wantDecode(t, b[:n], make([]api.Inst, n/8), api.OK)
		} else {
			wantDecode(t, b[:n], nil, api.ErrCode)
		}
	}
}

// P4.2: each value of the first byte: from 0 to 22 they are the numbers of instructions.
func TestDecodeOfEachOp(t *testing.T) {
	for value := range 256 {
		b := []byte{byte(value), 0, 0, 0, 0, 0, 0, 0}
		if value < len(listed()) {
			wantDecode(t, b, []api.Inst{{Op: api.Op(value)}}, api.OK)
		} else {
			wantDecode(t, b, nil, api.ErrCode)
		}
	}
}

// P4.2: each value of each further byte of each instruction, the others of which are 0.
func TestDecodeOfEachByte(t *testing.T) {
	for op, row := range listed() {
		for value := range 256 {
			i := api.Inst{Op: api.Op(op), A: value}
			wantByte(t, i, 1, value, strings.Contains(row, "rA") && value < 16)
			i = api.Inst{Op: api.Op(op), B: value}
			wantByte(t, i, 2, value, strings.Contains(row, "rB") && value < 16)
			i = api.Inst{Op: api.Op(op), C: value}
			wantByte(t, i, 3, value, strings.Contains(row, "rC") && value < 16)
			for at := 4; at < 8; at++ {
				i = api.Inst{Op: api.Op(op), Imm: value << (8 * (at - 4))}
				if i.Imm > most {
					i.Imm -= 1 << 32
				}
				wantByte(t, i, at, value, strings.Contains(row, "N"))
			}
		}
	}
}

// wantByte decodes an instruction of which only the byte at may be other than 0; 0 is always permitted.
func wantByte(t *testing.T, i api.Inst, at, value int, isOperand bool) {
	t.Helper()
	b := make([]byte, 8)
	b[0], b[at] = byte(i.Op), byte(value)
	if isOperand || value == 0 {
		wantDecode(t, b, []api.Inst{i}, api.OK)
	} else {
		wantDecode(t, b, nil, api.ErrCode)
	}
}

// P4.2 with W3: eight bytes that are not those of a valid instruction, wherever they stand, leave no instructions.
func TestDecodeRefuses(t *testing.T) {
	good := []byte{1, 1, 0, 0, 254, 255, 255, 255}
	for _, bad := range [][]byte{
		{23, 0, 0, 0, 0, 0, 0, 0},
		{255, 255, 255, 255, 255, 255, 255, 255},
		{0, 1, 0, 0, 0, 0, 0, 0},
		{0, 0, 0, 0, 1, 0, 0, 0},
		{0, 0, 0, 0, 0, 0, 0, 128},
		{1, 16, 0, 0, 0, 0, 0, 0},
		{1, 1, 1, 0, 0, 0, 0, 0},
		{2, 1, 255, 0, 0, 0, 0, 0},
		{3, 1, 2, 16, 0, 0, 0, 0},
		{3, 1, 2, 3, 0, 0, 1, 0},
		{9, 1, 2, 3, 0, 0, 0, 0},
		{22, 1, 0, 0, 0, 0, 0, 0},
	} {
		for _, bs := range [][][]byte{{bad}, {bad, good}, {good, bad}, {good, bad, good}} {
			wantDecode(t, slices.Concat(bs...), nil, api.ErrCode)
		}
	}
}

// P4.1, P4.2 with W6: arguments stay as they are, their spare capacity too, and results are memory of their own.
func TestBytesShareNothing(t *testing.T) {
	is := []api.Inst{{Op: api.Movi, A: 1, Imm: 5}, {Op: api.Ret}, {Op: api.Out, A: 99}}
	wasInsts := slices.Clone(is)
	b, e := code.Encode(is[:2]...)
	if e != api.OK {
		t.Fatal(e)
	}
	other, _ := code.Encode(is[:2]...)
	wasBytes := slices.Clone(b)
	spare := append(slices.Clone(b), 77)[:len(b)]
	got, e := code.Decode(spare)
	if e != api.OK {
		t.Fatal(e)
	}
	clear(b)
	if !slices.Equal(other, wasBytes) || !slices.Equal(is, wasInsts) {
		t.Errorf("bytes of another call: %v; arguments: %v", other, is)
	}
	again, _ := code.Decode(spare)
	if !slices.Equal(spare[:len(spare)+1], append(wasBytes, 77)) {
		t.Errorf("Decode changed its argument: %v", spare[:len(spare)+1])
	}
	clear(spare)
	clear(again)
	if !slices.Equal(got, wasInsts[:2]) {
		t.Errorf("instructions of another call: %v", got)
	}
}
