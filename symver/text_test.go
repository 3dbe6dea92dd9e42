package symver_test

import (
	"regexp"
	"strings"
	"testing"

	"clevis/api"
	"clevis/symver"
)

// P7.1: texts without a version, with `@` and with `@@`, of definitions and of references.
func TestParse(t *testing.T) {
	wantParse(t, "f", true, api.Symbol{Name: "f", Defined: true})
	wantParse(t, "f", false, api.Symbol{Name: "f"})
	wantParse(t, "f@V1", true, api.Symbol{Name: "f", Version: "V1", Old: true, Defined: true})
	wantParse(t, "f@V1", false, api.Symbol{Name: "f", Version: "V1"})
	wantParse(t, "f@@V1", true, api.Symbol{Name: "f", Version: "V1", Defined: true})
	wantParse(t, "memcpy@GLIBC_2.2.5", true, api.Symbol{Name: "memcpy", Version: "GLIBC_2.2.5", Old: true, Defined: true})
	wantParse(t, "memcpy@GLIBC_2.2.5", false, api.Symbol{Name: "memcpy", Version: "GLIBC_2.2.5"})
	wantParse(t, "memcpy@@GLIBC_2.14", true, api.Symbol{Name: "memcpy", Version: "GLIBC_2.14", Defined: true})
	wantParse(t, ".@_", true, api.Symbol{Name: ".", Version: "_", Old: true, Defined: true})
	wantParse(t, "f@@f", true, api.Symbol{Name: "f", Version: "f", Defined: true})
}

// P7.1: each name without a version, and as a name and as a version with `@` and `@@`; names of 1 and of 64 bytes are among them.
func TestParseOfEachName(t *testing.T) {
	for _, name := range rightNames() {
		wantParse(t, name, true, api.Symbol{Name: name, Defined: true})
		wantParse(t, name, false, api.Symbol{Name: name})
		for _, version := range rightNames() {
			wantParse(t, name+"@"+version, true, api.Symbol{Name: name, Version: version, Old: true, Defined: true})
			wantParse(t, name+"@"+version, false, api.Symbol{Name: name, Version: version})
			wantParse(t, name+"@@"+version, true, api.Symbol{Name: name, Version: version, Defined: true})
			wantParseError(t, name+"@@"+version, false)
		}
	}
}

// P7.1 with W3: the empty text, an empty name or version, and `@` in other numbers and at other places.
func TestParseRefuses(t *testing.T) {
	for _, text := range []string{
		"", "@", "@@", "@@@", "@@@@", "f@", "f@@", "f@@@", "@V", "@@V", "@@@V", "@f@V", "@f@@V", "@@f@V", "@f", "f@@@V", "f@@@@V",
		"f@V@", "f@V@@", "f@@V@", "f@@V@@", "f@V@W", "f@@V@W", "f@V@@W", "f@@V@@W", "f@g@V@W", "f @V", "f@ V", "f@V ", " f@V", "f@V\n",
		"f@\x00", "f\x00@V", "f@-", "f-@V", "f@\u00e9", "\u00e9@V", "f@V/", "f/@@V", "f\uff20V",
	} {
		wantParseError(t, text, true)
		wantParseError(t, text, false)
	}
}

// P7.1 with W3: `@@` where the symbol is not defined.
func TestParseRefusesDoubleOfReference(t *testing.T) {
	for _, text := range []string{"f@@V1", "a@@a", ".@@.", long(64) + "@@" + long(64)} {
		wantParseError(t, text, false)
	}
}

// P7.1 with W3: what is no name is refused as a name and as a version.
func TestParseRefusesEachWrongName(t *testing.T) {
	for _, wrong := range wrongNames() {
		for _, text := range []string{wrong, wrong + "@V", wrong + "@@V", "f@" + wrong, "f@@" + wrong, wrong + "@" + wrong, wrong + "@@" + wrong} {
			wantParseError(t, text, true)
			wantParseError(t, text, false)
		}
	}
}

// P7.1: names and versions of each length, beside each other.
func TestParseOfEachLength(t *testing.T) {
	for _, n := range []int{0, 1, 2, 63, 64, 65, 66, 127, 128, 129} {
		for _, m := range []int{0, 1, 2, 63, 64, 65, 66, 127, 128, 129} {
			for _, text := range []string{long(n) + "@" + long(m), long(n) + "@@" + long(m)} {
				if s, e := symver.Parse(text, true); (e == api.OK) != (1 <= n && n <= 64 && 1 <= m && m <= 64) || len(s.Name) > n {
					t.Errorf("Parse of %d bytes and %d bytes: %+v, %d", n, m, s, e)
				}
			}
		}
	}
}

// P7.1: each of the 256 bytes, in a name and in a version.
func TestParseOfEachByte(t *testing.T) {
	for c := range 256 {
		s := string([]byte{byte(c)})
		for _, defined := range []bool{true, false} {
			if strings.Contains(nameBytes, s) {
				wantParse(t, "a"+s+"b", defined, api.Symbol{Name: "a" + s + "b", Defined: defined})
				wantParse(t, s+"@V", defined, api.Symbol{Name: s, Version: "V", Old: defined, Defined: defined})
				wantParse(t, "f@"+s, defined, api.Symbol{Name: "f", Version: s, Old: defined, Defined: defined})
				continue
			}
			for _, text := range []string{s, s + "@V", s + "f@V", "f@" + s, "f@V" + s, "f@" + s + "V" + s} {
				wantParseError(t, text, defined)
			}
		}
	}
}

// P7.1: all short texts of letters, `@` and a byte that no name has, by an expression for what a text is.
func TestParseByDefinition(t *testing.T) {
	form := regexp.MustCompile(`\A([A-Za-z0-9_.]{1,64})(?:(@@?)([A-Za-z0-9_.]{1,64}))?\z`)
	accepted := 0
	for _, text := range someBytes("fV@-", 7) {
		for _, defined := range []bool{true, false} {
			parts := form.FindStringSubmatch(text)
			if parts == nil || !defined && strings.Contains(text, "@@") {
				wantParseError(t, text, defined)
				continue
			}
			accepted++
			wantParse(t, text, defined, api.Symbol{Name: parts[1], Version: parts[3], Old: defined && parts[2] == "@", Defined: defined})
		}
	}
	if accepted == 0 {
		t.Error("no text is accepted")
	}
}

// P7.1: the texts of definitions, of old ones, and of references.
func TestPrint(t *testing.T) {
	wantPrint(t, def("f", "", false), "f")
	wantPrint(t, def("f", "V1", false), "f@@V1")
	wantPrint(t, def("f", "V1", true), "f@V1")
	wantPrint(t, ref("f", ""), "f")
	wantPrint(t, ref("f", "V1"), "f@V1")
	wantPrint(t, def(long(64), long(64), false), long(64)+"@@"+long(64))
	wantPrint(t, ref(long(64), long(64)), long(64)+"@"+long(64))
}

// P7.1: what a symbol has beside its name, its version, Old and Defined is not in its text.
func TestPrintOfOtherFields(t *testing.T) {
	numbers := []int{0, 8, -1}
	for _, s := range someSymbols([]string{"f"}, []string{"", "V1"}, append(rightKinds(), wrongKinds()...), append(rightVis(), wrongVis()...), numbers) {
		want := "f"
		if s.Version != "" {
			want = "f@V1"
		}
		if s.Version != "" && s.Defined && !s.Old {
			want = "f@@V1"
		}
		wantPrint(t, s, want)
	}
}

// P7.1 with W1: symbols that are not valid have texts, too: names that are none stand as they are.
func TestPrintOfWrong(t *testing.T) {
	wantPrint(t, api.Symbol{}, "")
	wantPrint(t, api.Symbol{Old: true}, "")
	wantPrint(t, api.Symbol{Name: "f", Old: true, Defined: true}, "f")
	wantPrint(t, api.Symbol{Version: "V"}, "@V")
	wantPrint(t, api.Symbol{Version: "V", Defined: true}, "@@V")
	wantPrint(t, api.Symbol{Name: "f", Version: "V", Old: true}, "f@V")
	for _, wrong := range wrongNames() {
		wantPrint(t, def(wrong, "V", true), wrong+"@V")
		wantPrint(t, ref(wrong, ""), wrong)
		if wrong != "" {
			wantPrint(t, def("f", wrong, false), "f@@"+wrong)
		}
	}
}

// P7.4: Parse of Print of a valid symbol has its Name, Version and Old.
func TestTripOfSymbols(t *testing.T) {
	versions := append(rightNames(), "")
	valid := 0
	for _, s := range someSymbols(rightNames(), versions, rightKinds(), rightVis(), []int{0, 8}) {
		if symver.Right(s) != api.OK {
			continue
		}
		valid++
		wantParse(t, symver.Print(s), s.Defined, api.Symbol{Name: s.Name, Version: s.Version, Old: s.Old, Defined: s.Defined})
	}
	if valid == 0 {
		t.Error("no symbol is valid")
	}
}

// tripText reports whether the text is accepted; then Print must return it again.
func tripText(t *testing.T, text string, defined bool) bool {
	t.Helper()
	s, e := symver.Parse(text, defined)
	if e != api.OK {
		wantParseError(t, text, defined)
		return false
	}
	wantPrint(t, s, text)
	s.Kind = api.Func
	wantRight(t, s, api.OK)
	return true
}

// P7.4: Print of the result of Parse is the text, whatever the text; with a Kind it is a valid symbol.
func TestTripOfTexts(t *testing.T) {
	accepted := 0
	for _, text := range someBytes("a9_@", 7) {
		for _, defined := range []bool{true, false} {
			if tripText(t, text, defined) {
				accepted++
			}
		}
	}
	if accepted == 0 {
		t.Error("no text is accepted")
	}
}

// P7.4: texts of any kind are returned again, or refused.
func FuzzTexts(f *testing.F) {
	for _, text := range []string{"", "f", "f@V1", "f@@V1", "f@@@V1", "@", "f@", long(64) + "@@" + long(64), long(65), "\u00e9@\xff"} {
		f.Add(text)
	}
	f.Fuzz(func(t *testing.T, text string) {
		tripText(t, text, true)
		tripText(t, text, false)
	})
}

// W2: the same calls return the same results, whatever was called between.
func TestCallsDependOnNothingElse(t *testing.T) {
	for range 3 {
		wantParse(t, "f@V1", true, api.Symbol{Name: "f", Version: "V1", Old: true, Defined: true})
		wantParseError(t, "f@@V1", false)
		wantParse(t, "f@@V1", true, api.Symbol{Name: "f", Version: "V1", Defined: true})
		wantParse(t, "f@V1", false, api.Symbol{Name: "f", Version: "V1"})
		wantPrint(t, def("f", "V1", false), "f@@V1")
	}
}
