package token_test

import (
	"slices"
	"testing"
	"unsafe"

	"clevis/api"
	"clevis/token"
)

// overlap reports whether two strings have a byte of memory in common.
func overlap(s, t string) bool {
	if s == "" || t == "" {
		return false
	}
	from, to := uintptr(unsafe.Pointer(unsafe.StringData(s))), uintptr(unsafe.Pointer(unsafe.StringData(t)))
	return from < to+uintptr(len(t)) && to < from+uintptr(len(s))
}

// fresh returns a string whose memory no other one has, so that none shares it by chance.
func fresh(s string) string { return string(slices.Clone([]byte(s))) }

// P11.1 with W6: a result shares no memory with the text or the origin, even if it is the same string.
func TestExpandIsNew(t *testing.T) {
	for _, c := range []struct{ text, origin string }{
		{"/usr/lib", "/opt/origin"},
		{"$ORIGIN", "/opt/origin"},
		{"$ORIGIN$LIB", "/opt/origin"},
		{"/usr$ORIGIN", "/"},
		{"/usr/share$ORIGIN", ""},
	} {
		text, origin := fresh(c.text), fresh(c.origin)
		got, e := token.Expand(text, origin)
		if e != api.OK || got == "" || overlap(got, text) || overlap(got, origin) {
			t.Errorf("Expand(%q, %q): %q, %d", text, origin, got, e)
		}
	}
}

// P11.2 with W6: what Split returns shares no memory with the text, and each call has a list of its own.
func TestSplitIsNew(t *testing.T) {
	for _, c := range []string{"/usr/lib", "/usr/lib:/usr/share", ":/usr/lib:"} {
		text := fresh(c)
		one, two := token.Split(text), token.Split(text)
		for _, p := range one {
			if overlap(p, text) {
				t.Errorf("Split(%q): %q", text, p)
			}
		}
		clear(one)
		_ = append(one, "x")
		if slices.Contains(two, "") || len(two) == 0 || token.Join(two...) != token.Join(token.Split(text)...) {
			t.Errorf("Split(%q): %q", text, two)
		}
	}
}

// P11.2 with W6: Join leaves the strings and what is behind them in their memory, and shares none with them.
func TestJoinLeavesArguments(t *testing.T) {
	room := []string{"", fresh("/usr/lib"), "", fresh("/usr/share"), "", "behind", "it"}
	before := slices.Clone(room)
	for n := range len(room) {
		list := token.Join(room[:n]...)
		for _, p := range room {
			if overlap(list, p) {
				t.Errorf("Join of %q: %q", room[:n], list)
			}
		}
		if !slices.Equal(room, before) {
			t.Fatalf("Join of %q changed them to %q", before[:n], room)
		}
	}
}

// P11.2 with W6: the list stays when the strings are replaced by others.
func TestJoinKeepsNothing(t *testing.T) {
	ps := []string{"a", "", "b"}
	list := token.Join(ps...)
	ps[0], ps[1], ps[2] = "x", "y", "z"
	if list != "a:b" {
		t.Errorf("the list is %q then", list)
	}
	wantJoin(t, "x:y:z", ps...)
	wantSplit(t, list, "a", "b")
}

// W2: the same calls return the same results, whatever was called between.
func TestCallsDependOnNothingElse(t *testing.T) {
	for range 3 {
		wantExpand(t, "$ORIGIN/$LIB", "/a", "/a/lib")
		wantExpandError(t, "$ORIGIN/$LIBRARY$", "/b", api.ErrToken)
		wantExpand(t, "$ORIGIN/$LIB", "/b", "/b/lib")
		wantExpandError(t, "$ORIGIN", long(201), api.ErrLong)
		wantSplit(t, "a::b", "a", "b")
		wantJoin(t, "b:a", "b", "", "a")
		wantSplit(t, "::")
		wantJoin(t, "")
	}
}
