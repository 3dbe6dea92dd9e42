package token_test

import (
	"regexp"
	"slices"
	"strings"
	"testing"

	"clevis/api"
	"clevis/token"
)

// modelExpand finds all tokens first: each mark that is left then is a wrong one.
func modelExpand(text, origin string) (string, api.Errno) {
	form := regexp.MustCompile(`\$(ORIGIN|LIB)`)
	result := form.ReplaceAllStringFunc(text, func(found string) string {
		return map[string]string{"$ORIGIN": origin, "$LIB": "lib"}[found]
	})
	switch {
	case len(text) > 200:
		return "", api.ErrLong
	case strings.Contains(form.ReplaceAllString(text, "/"), "$"):
		return "", api.ErrToken
	case len(result) > 200:
		return "", api.ErrLong
	}
	return result, api.OK
}

// modelSplit goes byte by byte.
func modelSplit(text string) []string {
	var ps []string
	isInside := false
	for i := range len(text) {
		switch {
		case text[i] == ':':
			isInside = false
		case isInside:
			ps[len(ps)-1] += text[i : i+1]
		default:
			ps = append(ps, text[i:i+1])
			isInside = true
		}
	}
	return ps
}

// modelJoin puts a colon ahead of each string, the first one's included, and takes that away again.
func modelJoin(ps ...string) string {
	list := ""
	for _, p := range ps {
		if p != "" {
			list += ":" + p
		}
	}
	return strings.TrimPrefix(list, ":")
}

// compareExpand reports whether the text is one that can be expanded.
func compareExpand(t *testing.T, text, origin string) bool {
	t.Helper()
	want, e := modelExpand(text, origin)
	if e != api.OK {
		wantExpandError(t, text, origin, e)
		return false
	}
	wantExpand(t, text, origin, want)
	return true
}

// compareLists takes ps as strings of any kind, with colons and without.
func compareLists(t *testing.T, text string, ps ...string) {
	t.Helper()
	wantSplit(t, text, modelSplit(text)...)
	list := modelJoin(ps...)
	wantJoin(t, list, ps...)
	wantSplit(t, list, modelSplit(list)...)
	if !slices.ContainsFunc(ps, func(p string) bool { return strings.Contains(p, ":") }) {
		wantSplit(t, list, withoutEmpty(ps)...)
		wantJoin(t, list, token.Split(list)...)
	}
}

// P11.1: all short texts of marks, words, parts of them and other bytes.
func TestExpandByDefinition(t *testing.T) {
	accepted, refused := 0, 0
	for _, pieces := range sequences(5, "$", "ORIGIN", "LIB", "L", "IB", "lib", "/", "\xff", "$LIB", "$ORIGIN") {
		if compareExpand(t, strings.Join(pieces, ""), "$LIB:") {
			accepted++
		} else {
			refused++
		}
	}
	if accepted == 0 || refused == 0 {
		t.Errorf("%d texts are accepted, %d are refused", accepted, refused)
	}
}

// P11.1: all cuts of a text, so that each token is cut short at each place.
func TestExpandOfCuts(t *testing.T) {
	text := "/a$ORIGIN$LIB/$LIBRARY:$ORIGINAL$ORIGIN/b"
	for from := range len(text) + 1 {
		for to := from; to <= len(text); to++ {
			compareExpand(t, text[from:to], "/o")
		}
	}
}

// P11.1: results of lengths around 200 bytes, from each number of tokens of both kinds, with a right end and a wrong one.
func TestExpandOfLengthsByDefinition(t *testing.T) {
	for origins := range 5 {
		for libs := range 5 {
			tokens := strings.Repeat("$ORIGIN", origins) + strings.Repeat("$LIB", libs)
			for _, n := range []int{0, 1, 40, 46, 47, 48, 49, 50, 51, 60, 63, 64, 65, 66, 67, 95, 100, 190, 199, 200, 201} {
				for _, plain := range []int{0, 1, 2, 3, 5, 8, 100, 196, 200} {
					compareExpand(t, tokens+long(plain), long(n))
					compareExpand(t, tokens+long(plain)+"$L", long(n))
				}
			}
		}
	}
}

// P11.2: all short lists of strings with colons and without.
func TestListsByDefinition(t *testing.T) {
	for _, ps := range sequences(5, "", ":", "a", "a:", ":b", "\xff") {
		compareLists(t, strings.Join(ps, ""), ps...)
	}
}

// P11.1 to P11.3: texts of any kind.
func FuzzPaths(f *testing.F) {
	f.Add("$ORIGIN/../$LIB", "/a/b", ":a::b")
	f.Add("$ORIGINAL$LIBRARY", "$LIB", "")
	f.Add("$lib", ":", "::")
	f.Add("$ORIGIN"+long(193), long(7), "\xff:\x00")
	f.Fuzz(func(t *testing.T, text, origin, list string) {
		compareExpand(t, text, origin)
		compareExpand(t, strings.ReplaceAll(text, "$", ""), origin)
		compareLists(t, list, text, origin, list)
		compareLists(t, text+":"+list, strings.ReplaceAll(text, ":", ""), "", strings.ReplaceAll(list, ":", ""))
	})
}
