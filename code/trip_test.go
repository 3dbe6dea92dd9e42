package code_test

import (
	"slices"
	"strings"
	"testing"

	"clevis/api"
	"clevis/code"
)

// P4.3: Decode returns what Encode encoded, and Parse what Print printed, for any number of instructions.
func TestTripOfInsts(t *testing.T) {
	all := samples()
	for from := range all {
		var is []api.Inst
		for _, s := range all[from:min(from+from%7, len(all))] {
			is = append(is, s.inst)
		}
		b, e := code.Encode(is...)
		if e != api.OK {
			t.Fatalf("Encode(%v): %d", is, e)
		}
		wantDecode(t, b, is, api.OK)
		text, e := code.Print(is...)
		if e != api.OK {
			t.Fatalf("Print(%v): %d", is, e)
		}
		wantParse(t, text, is)
	}
}

// tripBytes reports whether the bytes are those of instructions; then Encode must return them again.
func tripBytes(t *testing.T, b []byte) bool {
	t.Helper()
	is, e := code.Decode(b)
	if e != api.OK {
		if len(is) != 0 || e != api.ErrCode {
			t.Errorf("Decode(%v) fails with %d and %v", b, e, is)
		}
		return false
	}
	for _, i := range is {
		wantMay(t, i, api.OK)
	}
	wantEncode(t, is, b, api.OK)
	return true
}

// P4.3: Encode returns what Decode decoded, whatever the bytes: two bytes of eight have many values, the number also.
func TestTripOfBytes(t *testing.T) {
	values := []byte{0, 1, 2, 14, 15, 16, 17, 127, 128, 254, 255}
	accepted := 0
	for op := range 30 {
		for at := 1; at < 8; at++ {
			for other := at + 1; other < 8; other++ {
				for _, v := range values {
					for _, w := range values {
						b := []byte{byte(op), 0, 0, 0, 0, 0, 0, 0}
						b[at], b[other] = v, w
						if tripBytes(t, b) {
							accepted++
						}
					}
				}
			}
		}
	}
	if accepted == 0 {
		t.Error("no bytes are accepted")
	}
}

// P4.3: Print returns what Parse parsed, with a byte 10 behind each line, whatever the text.
func TestTripOfTexts(t *testing.T) {
	for _, s := range samples() {
		for _, text := range []string{s.line, s.line + s.line, "halt\n" + s.line, strings.TrimSuffix(s.line, "\n")} {
			tripText(t, text)
		}
	}
	for _, line := range wrongLines() {
		tripText(t, line+"\n")
	}
}

func tripText(t *testing.T, text string) {
	t.Helper()
	is, line, e := code.Parse(text)
	if e != api.OK {
		if len(is) != 0 || line < 1 || e != api.ErrCodeText {
			t.Errorf("Parse(%q) fails with %d, line %d and %v", text, e, line, is)
		}
		return
	}
	want := text
	if text != "" && !strings.HasSuffix(text, "\n") {
		want += "\n"
	}
	wantPrint(t, is, want, api.OK)
}

// P4.3: bytes of any kind, and texts of any kind, are those of what they yield, or refused.
func FuzzTrips(f *testing.F) {
	f.Add([]byte{1, 1, 0, 0, 254, 255, 255, 255}, "movi r1 -2\n")
	f.Add([]byte{}, "")
	f.Add([]byte{23, 0, 0, 0, 0, 0, 0, 0}, "halt\n\n")
	for op := range listed() {
		s := sampleOf(op, 3, 14, 15, -92)
		f.Add(s.bytes, s.line)
	}
	f.Fuzz(func(t *testing.T, b []byte, text string) {
		tripBytes(t, slices.Clone(b))
		tripText(t, text)
	})
}

// W2: the same calls return the same results, whatever was called between.
func TestCallsDependOnNothingElse(t *testing.T) {
	good := api.Inst{Op: api.Lea, A: 4, Imm: 8}
	for range 3 {
		wantPrint(t, []api.Inst{good}, "lea r4 8\n", api.OK)
		wantParseError(t, "lea r4 08\n", 1)
		wantEncode(t, []api.Inst{{Op: -1}}, nil, api.ErrCode)
		wantEncode(t, []api.Inst{good}, []byte{12, 4, 0, 0, 8, 0, 0, 0}, api.OK)
		wantDecode(t, []byte{1}, nil, api.ErrCode)
		wantParse(t, "lea r4 8\n", []api.Inst{good})
	}
}
