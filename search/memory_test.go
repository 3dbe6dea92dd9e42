package search_test

import (
	"maps"
	"slices"
	"strconv"
	"testing"
	"unsafe"

	"clevis/api"
	"clevis/files"
	"clevis/search"
)

// overlap reports whether two strings have a byte of memory in common.
func overlap(s, t string) bool {
	if s == "" || t == "" {
		return false
	}
	from, to := uintptr(unsafe.Pointer(unsafe.StringData(s))), uintptr(unsafe.Pointer(unsafe.StringData(t)))
	return from < to+uintptr(len(t)) && to < from+uintptr(len(s))
}

// fresh returns a string whose memory no other one has, so that none shares it by chance.
func fresh(s string) string { return string(slices.Clone([]byte(s))) }

// texts returns all strings of a query.
func (q query) texts() []string {
	all := append([]string{q.name, q.origin}, q.runPath...)
	all = append(all, q.env.Paths...)
	for _, k := range q.env.Cache {
		all = append(all, k.Name, k.Path)
	}
	return all
}

// freshQuery returns a query that shares no memory, with room behind each of its lists.
func freshQuery(q query) query {
	own := query{name: fresh(q.name), origin: fresh(q.origin)}
	for _, dir := range append(slices.Clone(q.runPath), "/behind") {
		own.runPath = append(own.runPath, fresh(dir))
	}
	for _, dir := range append(slices.Clone(q.env.Paths), "/behind") {
		own.env.Paths = append(own.env.Paths, fresh(dir))
	}
	for _, k := range append(slices.Clone(q.env.Cache), search.Known{Name: q.name, Path: "/behind"}) {
		own.env.Cache = append(own.env.Cache, search.Known{Name: fresh(k.Name), Path: fresh(k.Path)})
	}
	own.runPath = own.runPath[:len(q.runPath)]
	own.env.Paths = own.env.Paths[:len(q.env.Paths)]
	own.env.Cache = own.env.Cache[:len(q.env.Cache)]
	return own
}

// behind returns the lists of a query with all the room that they have.
func (q query) behind() query {
	q.runPath = q.runPath[:cap(q.runPath)]
	q.env.Paths = q.env.Paths[:cap(q.env.Paths)]
	q.env.Cache = q.env.Cache[:cap(q.env.Cache)]
	return q
}

func queries() []query {
	return []query{
		asked("libb.so", "/opt/origin", "/run/path", "$ORIGIN", "$X").paths("/env/path", "/env/$LIB", "env").cache("other", "/c/other", "libb.so", "/c/libb.so"),
		asked("libb.so", "/opt/origin"),
		asked("/opt/libb.so", "/opt/origin", "/run/path"),
		asked("$ORIGIN/libb.so", "/opt/origin").paths("/env/path").cache("libb.so", "/c/libb.so"),
		asked("a b", "/opt/origin", "/run/path").cache("a b", "/c/libb.so"),
		asked("..", "/", "/run/path", "").paths("/").cache("..", "/"),
		asked("", "/opt/origin", "/run/path").paths("/env/path"),
		asked("a/b", "/opt/origin", "/run/path").paths("/env/path"),
		asked("$X/b", "/opt/origin", "/run/path").paths("/env/path"),
	}
}

func fullStore(t *testing.T) *files.Store {
	t.Helper()
	s := storeWith(t, "/opt", "/opt/origin", "/run", "/run/path", "/env", "/c", "/lib")
	put(t, s, "/lib/libb.so", "/opt/libb.so", "/c/libb.so")
	must(t, s.Symlink("/opt/origin/libb.so", "../../c/libb.so"), s.Symlink("/run/path/libb.so", "nothing"), s.Symlink("/env/path", "/lib"))
	return s
}

// told returns everything that can be read of a store, by place.
func told(t *testing.T, s *files.Store) map[string]string {
	t.Helper()
	all := map[string]string{}
	for dirs := []string{""}; len(dirs) > 0; dirs = dirs[1:] {
		names, e := s.Names(dirs[0] + "/")
		must(t, e)
		for _, name := range names {
			path := dirs[0] + "/" + name
			at, e := s.Real(path)
			id, _ := s.Find(path)
			b, _ := s.Read(path)
			all[path] = at + " " + strconv.Itoa(int(e)) + " " + strconv.Itoa(id) + " " + string(b)
			if s.Kind(path) == api.Dir {
				dirs = append(dirs, path)
			}
		}
	}
	return all
}

// W6: both calls leave what they are given, with what is behind it, and the store as they were.
func TestArgumentsStay(t *testing.T) {
	s := fullStore(t)
	was := told(t, s)
	for _, q := range queries() {
		own := freshQuery(q)
		before := slices.Clone(own.behind().texts())
		own.candidates()
		own.find(s)
		if !slices.Equal(own.behind().texts(), before) {
			t.Errorf("%s: changed to %q", q.text(), own.behind().texts())
		}
	}
	if !maps.Equal(told(t, s), was) {
		t.Error("the store has changed")
	}
	put(t, s, "/lib/next")
	wantFound(t, s, asked("next", ""), "/lib/next", 4)
}

// W6: results share no memory with what is given, nor with each other's.
func TestResultsAreNew(t *testing.T) {
	s := fullStore(t)
	for _, q := range queries() {
		own := freshQuery(q)
		one, e := own.candidates()
		two, _ := own.candidates()
		at, _, _ := own.find(s)
		for _, text := range own.behind().texts() {
			if slices.ContainsFunc(append(one, at), func(result string) bool { return overlap(result, text) }) {
				t.Errorf("%s: %q has the memory of %q", q.text(), append(one, at), text)
			}
		}
		was := slices.Clone(one)
		clear(one[:cap(one)])
		if !slices.Equal(two, was) {
			t.Errorf("%s: %q is not left as it was", q.text(), two)
		}
		if three, again := own.candidates(); !slices.Equal(three, was) || again != e {
			t.Errorf("%s: %q and %d, then %q and %d", q.text(), was, e, three, again)
		}
	}
}

// W6: nothing that was given is kept, so that its lists may have other strings then.
func TestNothingIsKept(t *testing.T) {
	own := freshQuery(queries()[0])
	one, e := own.candidates()
	must(t, e)
	was := slices.Clone(one)
	all := own.behind()
	for i := range all.runPath {
		all.runPath[i] = "/x"
	}
	clear(all.env.Paths)
	clear(all.env.Cache)
	if !slices.Equal(one, was) {
		t.Errorf("%q then, was %q", one, was)
	}
	wantLast(t, own, "/x/libb.so", "/x/libb.so", "/x/libb.so", "/libb.so", "/libb.so", "/libb.so")
}

// W5: a list that is nil, and one that is empty.
func TestNilAndEmpty(t *testing.T) {
	s := fullStore(t)
	for _, name := range []string{"libb.so", "/lib/libb.so", "a b", "$ORIGIN/b", ""} {
		q := asked(name, "/opt")
		empty := q
		empty.runPath, empty.env.Paths, empty.env.Cache = []string{}, []string{}, []search.Known{}
		one, e1 := q.candidates()
		two, e2 := empty.candidates()
		at1, id1, f1 := q.find(s)
		at2, id2, f2 := empty.find(s)
		if !slices.Equal(one, two) || e1 != e2 || at1 != at2 || id1 != id2 || f1 != f2 {
			t.Errorf("%q: %q and %q, %q and %q", name, one, two, at1, at2)
		}
	}
}

// W2: the same calls return the same results, whatever was called between.
func TestCallsDependOnNothingElse(t *testing.T) {
	s := fullStore(t)
	for range 3 {
		wantFound(t, s, queries()[0], "/c/libb.so", 3)
		wantFound(t, s, queries()[1], "/lib/libb.so", 1)
		wantLast(t, asked("libb.so", "/o", "$ORIGIN"), "/o/libb.so")
		wantLast(t, asked("libb.so", "/p"))
		wantNotFound(t, s, asked("", "/p", "/lib"), api.ErrSearch)
		wantNotFound(t, files.New(), queries()[1], api.ErrSearch)
	}
}
