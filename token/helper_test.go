package token_test

import (
	"slices"
	"strings"
	"testing"

	"clevis/api"
	"clevis/token"
)

func long(n int) string { return strings.Repeat("p", n) }

// oddOrigins contain what would count if it stood in a text: marks, tokens, parts of them and colons.
func oddOrigins() []string {
	return []string{
		"$", "$$", "$ORIGIN", "$LIB", "$lib", "a$", "$b", "$ORIGIN$ORIGIN", "$LIB/$ORIGIN", "ORIGIN", "LIB", "$O", "$LI",
		":", "::", "a:b", ":a:", "$LIB:$ORIGIN", "\x00", "\xff$\xfe", "é", " ", "\n",
	}
}

func wantExpand(t *testing.T, text, origin, want string) {
	t.Helper()
	if got, e := token.Expand(text, origin); got != want || e != api.OK {
		t.Errorf("Expand(%q, %q) is %q and %d, want %q and 0", text, origin, got, e, want)
	}
}

func wantExpandError(t *testing.T, text, origin string, want api.Errno) {
	t.Helper()
	if got, e := token.Expand(text, origin); got != "" || e != want {
		t.Errorf("Expand(%q, %.40q) is %q and %d, want nothing and %d", text, origin, got, e, want)
	}
}

func wantSplit(t *testing.T, text string, want ...string) {
	t.Helper()
	if got := token.Split(text); !slices.Equal(got, want) {
		t.Errorf("Split(%q) is %q, want %q", text, got, want)
	}
}

func wantJoin(t *testing.T, want string, ps ...string) {
	t.Helper()
	if got := token.Join(ps...); got != want {
		t.Errorf("Join of %q is %q, want %q", ps, got, want)
	}
}

// sequences are all lists of at most so many of the pieces.
func sequences(most int, pieces ...string) [][]string {
	all := [][]string{nil}
	for from := 0; len(all[from]) < most; from++ {
		for _, p := range pieces {
			all = append(all, append(slices.Clone(all[from]), p))
		}
	}
	return all
}
