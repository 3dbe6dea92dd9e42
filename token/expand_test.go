package token_test

import (
	"strings"
	"testing"

	"clevis/api"
	"clevis/token"
)

// P11.1: the examples of the chapter and of the one above.
func TestExpandExamples(t *testing.T) {
	wantExpand(t, "$ORIGIN/../$LIB", "/a/b", "/a/b/../lib")
	wantExpandError(t, "$lib", "/", api.ErrToken)
	wantExpand(t, "$ORIGINAL", "/a/b", "/a/bAL")
	wantExpand(t, "$ORIGIN/lib", "/p", "/p/lib")
	wantExpand(t, "$ORIGIN/x", "/p", "/p/x")
}

// P11.1: one token and several ones of both kinds, side by side and apart, at each end and between.
func TestExpand(t *testing.T) {
	for _, c := range []struct{ text, want string }{
		{"$ORIGIN", "/o"},
		{"$LIB", "lib"},
		{"$ORIGIN$ORIGIN", "/o/o"},
		{"$LIB$LIB", "liblib"},
		{"$ORIGIN$LIB", "/olib"},
		{"$LIB$ORIGIN", "lib/o"},
		{"$LIB$ORIGIN$ORIGIN$LIB$LIB", "lib/o/oliblib"},
		{"/a/$LIB", "/a/lib"},
		{"/a/$LIB/b", "/a/lib/b"},
		{"/$LIB/$LIB/", "/lib/lib/"},
		{"$ORIGIN/$ORIGIN", "/o//o"},
		{"a$ORIGINb$LIBc$ORIGINd", "a/oblibc/od"},
		{"$ORIGIN:$LIB:$ORIGIN", "/o:lib:/o"},
		{" $LIB ", " lib "},
	} {
		wantExpand(t, c.text, "/o", c.want)
	}
}

// P11.1: what follows a token's last letter does not count, even if it could go on as a longer word.
func TestExpandOfLongerWords(t *testing.T) {
	for _, c := range []struct{ text, want string }{
		{"$ORIGINAL", "/oAL"},
		{"$LIBRARY", "libRARY"},
		{"$ORIGINALLIB", "/oALLIB"},
		{"$ORIGINALS/$LIBRARY", "/oALS/libRARY"},
		{"$LIBLIB", "libLIB"},
		{"$ORIGINORIGIN", "/oORIGIN"},
		{"$ORIGINLIB", "/oLIB"},
		{"$LIBORIGIN", "libORIGIN"},
		{"$LIBlib", "liblib"},
		{"$LIB64", "lib64"},
		{"$ORIGIN_x", "/o_x"},
		{"$LIB$ORIGINAL", "lib/oAL"},
	} {
		wantExpand(t, c.text, "/o", c.want)
	}
}

// P11.1: words without a mark are no tokens.
func TestExpandOfBareWords(t *testing.T) {
	for _, text := range []string{"ORIGIN", "LIB", "lib", "origin", "/ORIGIN/LIB", "{ORIGIN}", "ORIGINLIB", "%LIB", "\\LIB"} {
		wantExpand(t, text, "/o", text)
		wantExpand(t, text+"$LIB", "/o", text+"lib")
		wantExpand(t, "$ORIGIN"+text, "/o", "/o"+text)
	}
}

// P11.1: the empty text, and the empty origin.
func TestExpandOfNothing(t *testing.T) {
	wantExpand(t, "", "", "")
	wantExpand(t, "", "/o", "")
	wantExpand(t, "$ORIGIN", "", "")
	wantExpand(t, "$ORIGIN$ORIGIN", "", "")
	wantExpand(t, "$ORIGIN/x", "", "/x")
	wantExpand(t, "a$ORIGINb", "", "ab")
	wantExpand(t, "$LIB", "", "lib")
	wantExpandError(t, "$", "", api.ErrToken)
}

// P11.1: an inserted origin is not examined again, alone or together with what is beside it.
func TestExpandTakesOriginsAsTheyAre(t *testing.T) {
	for _, origin := range oddOrigins() {
		wantExpand(t, "$ORIGIN", origin, origin)
		wantExpand(t, "/$ORIGIN/", origin, "/"+origin+"/")
		wantExpand(t, "$ORIGIN$ORIGIN$LIB", origin, origin+origin+"lib")
		wantExpand(t, "$LIB", origin, "lib")
		wantExpandError(t, "$ORIGIN$", origin, api.ErrToken)
	}
	wantExpand(t, "$ORIGINLIB", "$", "$LIB")
	wantExpand(t, "$ORIGINORIGIN", "$", "$ORIGIN")
	wantExpand(t, "$ORIGINB", "$LI", "$LIB")
	wantExpand(t, "$ORIGINx", "$", "$x")
	wantExpand(t, "$ORIGIN$LIB", "$", "$lib")
}

// P11.1: a text and a result have at most 200 bytes, each without regard to the other.
func TestExpandOfLengths(t *testing.T) {
	for n := 190; n <= 210; n++ {
		texts := []struct{ text, origin, result string }{
			{long(n), "/o", long(n)},
			{"$LIB" + long(n-4), "/o", "lib" + long(n-4)},
			{long(n-4) + "$LIB", "/o", long(n-4) + "lib"},
			{"$ORIGIN" + long(n-7), "", long(n - 7)},
			{long(n-7) + "$ORIGIN", long(7), long(n)},
			{long(n-7) + "$ORIGIN", long(8), long(n + 1)},
			{long(n-21) + "$ORIGIN$ORIGIN$ORIGIN", long(10), long(n + 9)},
			{"$ORIGIN", long(n), long(n)},
			{"$ORIGIN/", long(n), long(n) + "/"},
			{"/$ORIGIN", long(n), "/" + long(n)},
			{"$LIB$ORIGIN", long(n), "lib" + long(n)},
			{"$ORIGIN$LIB", long(n), long(n) + "lib"},
			{"$ORIGIN$ORIGIN", long(n / 2), long(n / 2 * 2)},
		}
		for _, c := range texts {
			if len(c.text) > 200 || len(c.result) > 200 {
				wantExpandError(t, c.text, c.origin, api.ErrLong)
			} else {
				wantExpand(t, c.text, c.origin, c.result)
			}
		}
	}
}

// P11.1: a text of 200 bytes and of 201 that consists of tokens, whose result is shorter or longer.
func TestExpandOfManyTokens(t *testing.T) {
	libs, origins := strings.Repeat("$LIB", 50), strings.Repeat("$ORIGIN", 28)
	wantExpand(t, libs, "/o", strings.Repeat("lib", 50))
	wantExpandError(t, libs+"x", "/o", api.ErrLong)
	wantExpandError(t, "$"+libs, "/o", api.ErrLong)
	wantExpand(t, origins, "", "")
	wantExpand(t, origins+"$LIB", "", "lib")
	wantExpandError(t, origins+"$LIBx", "", api.ErrLong)
	wantExpand(t, origins+"$LIB", long(7), long(196)+"lib")
	wantExpand(t, origins+long(4), long(7), long(200))
	wantExpandError(t, origins, long(8), api.ErrLong)
	wantExpandError(t, strings.Repeat("$ORIGIN", 29), "", api.ErrLong)
}

// P11.1: an origin of any length counts only where it is inserted.
func TestExpandOfLongOrigins(t *testing.T) {
	for _, n := range []int{201, 256, 1 << 16, 1 << 20} {
		wantExpand(t, "", long(n), "")
		wantExpand(t, "/a/$LIB", long(n), "/a/lib")
		wantExpandError(t, "$ORIGIN", long(n), api.ErrLong)
		wantExpandError(t, strings.Repeat("$ORIGIN", 28), long(n), api.ErrLong)
	}
}

// wrongTokens begin with a mark that neither ORIGIN nor LIB follows, and have no other one.
func wrongTokens() []string {
	return []string{
		"$", "$O", "$OR", "$ORI", "$ORIG", "$ORIGI", "$L", "$LI", "$RIGIN", "$OIGIN", "$ORGIN", "$ORIIN", "$ORIGN", "$IB", "$LB",
		"$origin", "$lib", "$Origin", "$Lib", "$ORIGIn", "$oRIGIN", "$LIb", "$lIB", "$LiB", "$NIGIRO", "$BIL", "$ORIGON", "$LIP",
		"${ORIGIN}", "${LIB}", "$ ORIGIN", "$ LIB", "$/LIB", "$:LIB", "$PLATFORM", "$x", "$1", "$\x00", "$\xff", "$ſ", "$LİB", "$ＬＩＢ",
	}
}

// P11.1 with W3: a wrong mark at the beginning, in the middle and at the end, alone and with tokens around it.
func TestExpandRefusesWrongTokens(t *testing.T) {
	for _, wrong := range wrongTokens() {
		for _, before := range []string{"", "/", "/a/", "ORIGIN", "$ORIGIN", "$LIB", "$ORIGIN/", "$LIB$ORIGIN", "$LIB:"} {
			for _, behind := range []string{"", "/", "/b", " ", "$ORIGIN", "$LIB", "/$ORIGIN", "/$LIB/$ORIGIN", "$"} {
				wantExpandError(t, before+wrong+behind, "/o", api.ErrToken)
				wantExpandError(t, before+wrong+behind, "", api.ErrToken)
			}
		}
	}
}

// P11.1: a mark belongs to the bytes right behind it, so that another mark is none of them.
func TestExpandRefusesDoubleMarks(t *testing.T) {
	for _, text := range []string{"$$", "$$$", "$$LIB", "$$ORIGIN", "$LIB$$LIB", "$L$LIBIB", "$ORI$LIBGIN", "$ORIGIN$", "$LIB$", "$LIB$$"} {
		wantExpandError(t, text, "/o", api.ErrToken)
	}
}

// P11.1: each of the 256 bytes beside a token, in place of each letter of one, and alone.
func TestExpandOfEachByte(t *testing.T) {
	for c := range 256 {
		s := string([]byte{byte(c)})
		if s == "$" {
			continue
		}
		wantExpand(t, s, "/o", s)
		wantExpand(t, s+"$LIB"+s+"$ORIGIN"+s, s+s, s+"lib"+s+s+s+s)
		for _, word := range []string{"ORIGIN", "LIB"} {
			for i := range len(word) {
				if s != word[i:i+1] {
					wantExpandError(t, "/$"+word[:i]+s+word[i+1:], "/o", api.ErrToken)
					wantExpandError(t, "/$"+word[:i]+s+word[i:], "/o", api.ErrToken)
				}
			}
		}
	}
}

// P11.1: bytes that are no UTF-8 are what they are, also where they are cut by a token.
func TestExpandOfAnyBytes(t *testing.T) {
	wantExpand(t, "\xff\xfe", "", "\xff\xfe")
	wantExpand(t, "\xc3$LIB\xa9", "", "\xc3lib\xa9")
	wantExpand(t, "\x00$ORIGIN\x80", "\xf0\x9f", "\x00\xf0\x9f\x80")
	wantExpand(t, strings.Repeat("\xff", 200), "", strings.Repeat("\xff", 200))
	wantExpandError(t, strings.Repeat("\xff", 201), "", api.ErrLong)
	wantExpand(t, strings.Repeat("é", 100), "", strings.Repeat("é", 100))
	wantExpandError(t, strings.Repeat("é", 101), "", api.ErrLong)
	wantExpandError(t, "$ORIGIN", strings.Repeat("é", 101), api.ErrLong)
	wantExpandError(t, "\xff$\xff", "", api.ErrToken)
}

// P11.1 with W4: a wrong mark is ErrToken in a text of 200 bytes, and ErrLong in one of 201 and more, wherever the mark is.
func TestExpandTellsLongTextFirst(t *testing.T) {
	for _, wrong := range wrongTokens() {
		fill := long(200 - len(wrong))
		for _, text := range []string{wrong + fill, fill + wrong, fill[:90] + wrong + fill[90:]} {
			wantExpandError(t, text, "/o", api.ErrToken)
			for _, more := range []string{"p", "$", "$LIB", long(200), text} {
				wantExpandError(t, text+more, "/o", api.ErrLong)
				wantExpandError(t, more+text, "/o", api.ErrLong)
			}
		}
	}
}

// P11.1 with W4: a wrong mark is ErrToken, even if the tokens before it alone, or those behind it, make the result too long.
func TestExpandTellsWrongTokenBeforeLongResult(t *testing.T) {
	for _, wrong := range wrongTokens() {
		for _, n := range []int{1, 67, 100, 200, 201, 1 << 16} {
			for _, text := range []string{"$ORIGIN$ORIGIN$ORIGIN" + wrong, wrong + "$ORIGIN$ORIGIN$ORIGIN", "$ORIGIN$ORIGIN" + wrong + "/$ORIGIN"} {
				wantExpandError(t, text, long(n), api.ErrToken)
			}
		}
		fill := long(200 - len("$ORIGIN") - len(wrong))
		wantExpandError(t, "$ORIGIN"+fill+wrong, long(8), api.ErrToken)
		wantExpandError(t, fill+"$ORIGIN"+wrong, long(300), api.ErrToken)
	}
}

// P11.3: a text without a mark is returned as it is, whatever the origin.
func TestExpandOfPlainTexts(t *testing.T) {
	texts := []string{"", "/", "a", "/a/b", "a:b", ":", "::", "..", " ", "\n", "/lib", "ORIGIN", "LIB", "é", "\x00", "\xff", long(199), long(200)}
	for _, text := range texts {
		for _, origin := range append(oddOrigins(), "", "/", "/o", long(200), long(201)) {
			wantExpand(t, text, origin, text)
		}
	}
	for n := range 201 {
		wantExpand(t, long(n), "/o", long(n))
	}
	wantExpandError(t, long(201), "/o", api.ErrLong)
	wantExpandError(t, long(1<<20), "/o", api.ErrLong)
}

// P11.1 and P11.3: what expanding returned is returned again, if it has no mark.
func TestExpandTwice(t *testing.T) {
	for _, text := range []string{"$ORIGIN/$LIB", "$LIBRARY", "/a/$LIB/../$ORIGINAL"} {
		once, e := token.Expand(text, "/o")
		if e != api.OK {
			t.Fatalf("Expand(%q): %d", text, e)
		}
		wantExpand(t, once, "/other", once)
	}
}
