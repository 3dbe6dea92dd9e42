package search_test

import (
	"path"
	"regexp"
	"slices"
	"strings"
	"testing"

	"clevis/api"
	"clevis/files"
	"clevis/search"
)

var absolute = regexp.MustCompile(`^(/[a-zA-Z0-9._-]{0,64})+$`)

// modelClean returns "" for what is no absolute path.
func modelClean(at string) string {
	if len(at) > 200 || !absolute.MatchString(at) {
		return ""
	}
	return path.Clean(at)
}

// modelExpand takes all tokens out: a mark that is left then is a wrong one.
func modelExpand(text, origin string) (string, api.Errno) {
	if len(text) > 200 {
		return "", api.ErrLong
	}
	if strings.Contains(strings.NewReplacer("$ORIGIN", "", "$LIB", "").Replace(text), "$") {
		return "", api.ErrToken
	}
	result := strings.NewReplacer("$ORIGIN", origin, "$LIB", "lib").Replace(text)
	if len(result) > 200 {
		return "", api.ErrLong
	}
	return result, api.OK
}

// modelCandidates makes a list of all that may be one, with "" for what is none, and takes that out in the end.
func modelCandidates(q query) ([]string, api.Errno) {
	if len(q.name) < 1 || len(q.name) > 200 {
		return nil, api.ErrSearch
	}
	if strings.IndexByte(q.name, '/') >= 0 {
		at, e := modelExpand(q.name, q.origin)
		if clean := modelClean(at); e == api.OK && clean != "" {
			return []string{clean}, api.OK
		} else if e == api.OK {
			e = api.ErrPath
		}
		return nil, e
	}
	var all []string
	for _, dir := range slices.Concat(q.runPath, q.env.Paths) {
		at, e := modelExpand(dir, q.origin)
		if e == api.OK {
			all = append(all, modelClean(at+"/"+q.name))
		}
	}
	for _, k := range q.env.Cache {
		if k.Name == q.name {
			all = append(all, modelClean(k.Path))
			break
		}
	}
	all = append(all, modelClean("/lib/"+q.name), modelClean("/usr/lib/"+q.name))
	return slices.DeleteFunc(all, func(at string) bool { return at == "" }), api.OK
}

// compare holds both calls against the model, and reports how many candidates there are.
func compare(t *testing.T, s *files.Store, q query) int {
	t.Helper()
	want, e := modelCandidates(q)
	if e != api.OK {
		wantError(t, q, e)
		wantNotFound(t, s, q, e)
		return 0
	}
	wantCandidates(t, q, want...)
	for _, at := range want {
		b, e := s.Read(at)
		if e != api.OK {
			continue
		}
		// Each file has its own path as its bytes, and its number behind that.
		place, number, _ := strings.Cut(string(b), " ")
		wantFound(t, s, q, place, int(number[0]-'0'))
		return len(want)
	}
	wantNotFound(t, s, q, api.ErrSearch)
	return len(want)
}

// modelStore has no file at two places, so that each one can tell where it is.
func modelStore(t *testing.T) *files.Store {
	t.Helper()
	s := storeWith(t, "/lib", "/usr", "/usr/lib", "/r", "/o", "/o/lib")
	for i, place := range []string{"/usr/lib/b", "/lib/c", "/r/b", "/o/lib/b", "/b"} {
		must(t, s.Put(place, []byte(place+" "+string(rune('1'+i)))))
	}
	must(t, s.Symlink("/o/b", "lib/b"), s.Symlink("/lib/b", "../r/b"), s.Symlink("/to-r", "r"), s.Symlink("/r/c", "c"))
	return s
}

// P12.1 and P12.2: all combinations of some names, origins, run paths, Paths and caches.
func TestSearchByDefinition(t *testing.T) {
	s := modelStore(t)
	names := []string{"", "b", "c", ".", "..", "$LIB", "b c", long(64), long(65), "/b", "/r/../b", "$ORIGIN/b", "$ORIGIN/$LIB/b", "$X/b", "a/b", "/a b", "/" + long(65)}
	origins := []string{"", "/o", "/to-r", "o", "/$LIB", pathOf(190), long(201)}
	dirs := [][]string{nil, {"/r"}, {"$ORIGIN", ""}, {"r", "/o/$LIB/.", "/none"}, {"$X", "$ORIGIN/../to-r", "/a b"}}
	caches := [][]string{nil, {"b", "/r/c", "b", "/b"}, {"c", "/to-r/b", "b", "/o/./b"}, {"b", "b", "..", "/r/b", "$LIB", "/b", "b c", "/none"}}
	total := 0
	for _, name := range names {
		for _, origin := range origins {
			for _, runPath := range dirs {
				for _, paths := range dirs {
					for _, cache := range caches {
						total += compare(t, s, asked(name, origin, runPath...).paths(paths...).cache(cache...))
					}
				}
			}
		}
	}
	if total == 0 {
		t.Error("there is no candidate at all")
	}
}

// shortTexts are all texts of at most so many of the pieces.
func shortTexts(most int, pieces ...string) []string {
	all := []string{""}
	last := all
	for range most {
		var next []string
		for _, text := range last {
			for _, piece := range pieces {
				next = append(next, text+piece)
			}
		}
		all = append(all, next...)
		last = next
	}
	return all
}

// P12.1 and P12.2: all short names, and all short directories, of bytes that count and one that must not be there.
func TestShortTexts(t *testing.T) {
	s := modelStore(t)
	for _, text := range shortTexts(4, "b", ".", "/", "$LIB", "$ORIGIN", "$", " ", "r") {
		compare(t, s, asked(text, "/o", "/r").paths("").cache(text, "/r/b"))
		compare(t, s, asked("b", "/o", text))
		compare(t, s, asked("..", "", text).paths(text))
		compare(t, s, asked("c", "/o").cache("b", "/b", "c", text))
	}
}

// P12.1 to P12.3: queries of any kind, with lists that have colons between their strings.
func FuzzSearches(f *testing.F) {
	f.Add("b", "/o", "/r:$ORIGIN", "$ORIGIN/../$LIB", "c:/b:b:/r/c")
	f.Add("$ORIGIN/b", "/to-r", "", ":", "")
	f.Add("a/b", "", "a b", "/", "a/b:/b")
	f.Add("..", long(200), "/..", "$X:", "..:/r/b")
	f.Add(long(64), pathOf(190), "$ORIGIN", pathOf(135), long(64)+":"+pathOf(200))
	f.Fuzz(func(t *testing.T, name, origin, runPath, paths, cache string) {
		q := query{name: name, origin: origin, runPath: strings.Split(runPath, ":"), env: search.Env{Paths: strings.Split(paths, ":")}}
		pairs := strings.Split(cache, ":")
		compare(t, modelStore(t), q.cache(pairs[:len(pairs)/2*2]...))
	})
}
