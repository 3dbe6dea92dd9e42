package search_test

import (
	"slices"
	"strconv"
	"strings"
	"testing"

	"clevis/api"
	"clevis/files"
	"clevis/search"
)

// query has what a search is asked with, besides a store.
type query struct {
	name, origin string
	runPath      []string
	env          search.Env
}

// asked is a query without an environment.
func asked(name, origin string, runPath ...string) query {
	return query{name: name, origin: origin, runPath: runPath}
}

func (q query) paths(paths ...string) query {
	q.env.Paths = paths
	return q
}

// cache takes names and paths by turns.
func (q query) cache(pairs ...string) query {
	q.env.Cache = nil
	for pair := range slices.Chunk(pairs, 2) {
		q.env.Cache = append(q.env.Cache, search.Known{Name: pair[0], Path: pair[1]})
	}
	return q
}

func (q query) named(name string) query {
	q.name = name
	return q
}

func (q query) candidates() ([]string, api.Errno) {
	return search.Candidates(q.name, q.origin, q.runPath, q.env)
}

func (q query) find(s *files.Store) (string, int, api.Errno) {
	return search.Find(s, q.name, q.origin, q.runPath, q.env)
}

// text has the query within the bounds of a line of a report.
func (q query) text() string {
	text := strconv.Quote(q.name) + " of " + strconv.Quote(q.origin) + " in " + strconv.Itoa(len(q.runPath)) + " run paths"
	for _, dir := range append(slices.Clone(q.runPath), q.env.Paths...) {
		text += " " + strconv.Quote(dir)
	}
	for _, k := range q.env.Cache {
		text += " " + strconv.Quote(k.Name) + "=" + strconv.Quote(k.Path)
	}
	return text[:min(len(text), 300)]
}

func wantCandidates(t *testing.T, q query, want ...string) {
	t.Helper()
	if got, e := q.candidates(); !slices.Equal(got, want) || e != api.OK {
		t.Errorf("Candidates of %s: %q and %d, want %q and 0", q.text(), got, e, want)
	}
}

// wantLast asks for candidates in the directories that are searched last, behind some others.
func wantLast(t *testing.T, q query, before ...string) {
	t.Helper()
	wantCandidates(t, q, append(before, "/lib/"+q.name, "/usr/lib/"+q.name)...)
}

// wantError asks for the same error of both calls, whatever store there is.
func wantError(t *testing.T, q query, want api.Errno) {
	t.Helper()
	if got, e := q.candidates(); len(got) != 0 || e != want {
		t.Errorf("Candidates of %s: %q and %d, want nothing and %d", q.text(), got, e, want)
	}
	wantNotFound(t, files.New(), q, want)
}

func wantFound(t *testing.T, s *files.Store, q query, path string, id int) {
	t.Helper()
	if at, got, e := q.find(s); at != path || got != id || e != api.OK {
		t.Errorf("Find of %s: %q, %d and %d, want %q and %d", q.text(), at, got, e, path, id)
	}
}

func wantNotFound(t *testing.T, s *files.Store, q query, want api.Errno) {
	t.Helper()
	if at, id, e := q.find(s); at != "" || id != 0 || e != want {
		t.Errorf("Find of %s: %q, %d and %d, want nothing and %d", q.text(), at, id, e, want)
	}
}

func must(t *testing.T, errs ...api.Errno) {
	t.Helper()
	for i, e := range errs {
		if e != api.OK {
			t.Fatalf("call %d: %d", i, e)
		}
	}
}

// storeWith returns a store with these directories, each behind the one that contains it.
func storeWith(t *testing.T, dirs ...string) *files.Store {
	t.Helper()
	s := files.New()
	for _, dir := range dirs {
		must(t, s.Mkdir(dir))
	}
	return s
}

func put(t *testing.T, s *files.Store, paths ...string) {
	t.Helper()
	for _, path := range paths {
		must(t, s.Put(path, []byte(path)))
	}
}

func long(n int) string { return strings.Repeat("p", n) }

// pathOf returns an absolute and clean path of n bytes, whose parts have at most 40.
func pathOf(n int) string {
	path := ""
	for n-len(path) > 41 {
		path += "/" + long(min(40, n-len(path)-3))
	}
	return path + "/" + long(n-len(path)-1)
}
