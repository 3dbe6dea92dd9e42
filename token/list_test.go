package token_test

import (
	"slices"
	"strings"
	"testing"

	"clevis/token"
)

// P11.2: the example, and lists with one path, several and none.
func TestSplit(t *testing.T) {
	wantSplit(t, ":a::b", "a", "b")
	wantSplit(t, "a", "a")
	wantSplit(t, "/lib", "/lib")
	wantSplit(t, "a:b", "a", "b")
	wantSplit(t, "/lib:/usr/lib:$ORIGIN/../$LIB", "/lib", "/usr/lib", "$ORIGIN/../$LIB")
	wantSplit(t, "b:a:b:a", "b", "a", "b", "a")
	wantSplit(t, "")
}

// P11.2: colons at both ends and side by side yield no empty strings.
func TestSplitOfColons(t *testing.T) {
	for n := range 7 {
		colons := strings.Repeat(":", n)
		wantSplit(t, colons)
		wantSplit(t, colons+"a", "a")
		wantSplit(t, "a"+colons, "a")
		wantSplit(t, colons+"a"+colons, "a")
		wantSplit(t, ":a:"+colons+"b", "a", "b")
		wantSplit(t, colons+"a:"+colons+"b:"+colons+"c"+colons, "a", "b", "c")
	}
}

// P11.2: each of the 256 bytes but the colon belongs to a path: blanks, other marks and bytes that are no UTF-8, too.
func TestSplitOfEachByte(t *testing.T) {
	for c := range 256 {
		s := string([]byte{byte(c)})
		if s == ":" {
			continue
		}
		wantSplit(t, s, s)
		wantSplit(t, ":"+s+":"+s+s+":a"+s+"b:", s, s+s, "a"+s+"b")
		wantJoin(t, s+":"+s+s, s, "", s+s)
	}
	wantSplit(t, "\xc3:\xa9", "\xc3", "\xa9")
	wantSplit(t, "é:\uff1a:\u0589", "é", "\uff1a", "\u0589")
	wantSplit(t, " : a : ", " ", " a ", " ")
}

// P11.2: lists have no limit of their own.
func TestLongLists(t *testing.T) {
	many := slices.Repeat([]string{"a", long(300), "b"}, 2000)
	wantSplit(t, strings.Join(many, ":"), many...)
	wantSplit(t, strings.Join(many, ":::"), many...)
	wantJoin(t, strings.Join(many, ":"), many...)
	wantSplit(t, long(1<<20), long(1<<20))
	wantSplit(t, strings.Repeat(":", 1<<20))
}

// P11.2: the nonempty strings, separated by colons.
func TestJoin(t *testing.T) {
	wantJoin(t, "a", "a")
	wantJoin(t, "a:b", "a", "b")
	wantJoin(t, "/lib:/usr/lib:$ORIGIN/../$LIB", "/lib", "/usr/lib", "$ORIGIN/../$LIB")
	wantJoin(t, "b:a:b:a", "b", "a", "b", "a")
	wantJoin(t, "\xff:\xc3:\xa9:\x00", "\xff", "\xc3", "\xa9", "\x00")
	wantJoin(t, long(300)+":"+long(300), long(300), long(300))
}

// P11.2: of no string, and of empty ones only, there is nothing to join.
func TestJoinOfNothing(t *testing.T) {
	wantJoin(t, "")
	for n := range 5 {
		wantJoin(t, "", make([]string, n)...)
	}
}

// P11.2: empty strings are left out at both ends and between.
func TestJoinLeavesOutEmpty(t *testing.T) {
	wantJoin(t, "a", "", "a")
	wantJoin(t, "a", "a", "")
	wantJoin(t, "a", "", "", "a", "", "")
	wantJoin(t, "a:b", "a", "", "b")
	wantJoin(t, "a:b", "", "a", "", "", "", "b", "")
	wantJoin(t, "a:b:c", "", "a", "b", "", "c")
}

// P11.2: strings that contain colons are nonempty, and stay as they are.
func TestJoinOfColons(t *testing.T) {
	wantJoin(t, ":", ":")
	wantJoin(t, ":::", ":", ":")
	wantJoin(t, ":", "", ":", "")
	wantJoin(t, "::a", ":", "a")
	wantJoin(t, "a:b:c", "a:b", "c")
	wantJoin(t, "a:b:c:d", "a:b", "", "c:d")
	wantJoin(t, ":a::b", ":a:", "b")
	wantJoin(t, ":a::::b", ":a::", "", ":b")
}

func withoutEmpty(ps []string) []string {
	return slices.DeleteFunc(slices.Clone(ps), func(p string) bool { return p == "" })
}

// P11.2: for strings without colons, Split of Join has those that are not empty, and Join of that is Join.
func TestTripOfLists(t *testing.T) {
	for _, ps := range sequences(5, "", "a", "/lib", "$LIB/é", "\xff") {
		list := token.Join(ps...)
		wantSplit(t, list, withoutEmpty(ps)...)
		wantJoin(t, list, token.Split(list)...)
	}
}

// P11.2: the same where colons stand between what is not empty; Split has the parts then.
func TestTripOfListsWithColons(t *testing.T) {
	for _, ps := range sequences(4, "", "a", "a:b", "b:c:d") {
		list := token.Join(ps...)
		wantSplit(t, list, withoutEmpty(strings.Split(strings.Join(ps, ":"), ":"))...)
		wantJoin(t, list, token.Split(list)...)
	}
}

// P11.2: Join of Split has each part once with a colon between, and Split of that is Split, whatever the text.
func TestTripOfTexts(t *testing.T) {
	for _, pieces := range sequences(6, ":", "a", "/", "\xff") {
		text := strings.Join(pieces, "")
		ps := token.Split(text)
		list := token.Join(ps...)
		if strings.Contains(list, "::") || strings.HasPrefix(list, ":") || strings.HasSuffix(list, ":") {
			t.Errorf("Join of Split of %q is %q", text, list)
		}
		wantSplit(t, list, ps...)
		wantJoin(t, list, token.Split(list)...)
	}
}
