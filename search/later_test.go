package search_test

import (
	"slices"
	"testing"

	"clevis/api"
	"clevis/files"
)

// thing is what is at a candidate of a small world: one of each kind, and a link to the next candidate (of the last one: to the first).
type thing int

const (
	nothing thing = iota
	plain
	directory
	link
	things
)

func smallPlaces() []string {
	return []string{"/r/b", "/e/b", "/c/b.1", "/lib/b", "/usr/lib/b"}
}

func smallQuery() query {
	return asked("b", "/p", "/r").paths("/e").cache("b", "/c/b.1", "b", "/x")
}

// world returns a store with these things at the candidates, in this order.
func world(t *testing.T, at []thing) *files.Store {
	t.Helper()
	s := storeWith(t, "/r", "/e", "/c", "/lib", "/usr", "/usr/lib")
	for i, what := range at {
		changeAt(t, s, i, what)
	}
	return s
}

// changeAt makes a thing of what is at a candidate.
func changeAt(t *testing.T, s *files.Store, i int, what thing) {
	t.Helper()
	places := smallPlaces()
	if s.Kind(places[i]) != api.NoFile {
		must(t, s.Remove(places[i]))
	}
	switch what {
	case plain:
		put(t, s, places[i])
	case directory:
		must(t, s.Mkdir(places[i]))
	case link:
		must(t, s.Symlink(places[i], places[(i+1)%len(places)]))
	}
}

// expected goes by the things: it returns the candidate that is found, and -1 if there is none, where its file is, and which candidates were looked at.
func expected(at []thing) (int, int, []bool) {
	seen := make([]bool, len(at))
	for i := range at {
		end := i
		for links := 0; links < len(at) && at[end] == link; links++ {
			seen[end] = true
			end = (end + 1) % len(at)
		}
		seen[end] = true
		if at[end] == plain {
			return i, end, seen
		}
	}
	return -1, -1, seen
}

// identity returns the number of the file at a candidate of a small world.
func identity(at []thing, end int) int {
	files := 0
	for _, what := range at[:end+1] {
		if what == plain {
			files++
		}
	}
	return files
}

// eachWorld goes through all small worlds.
func eachWorld(do func(at []thing)) {
	at := make([]thing, len(smallPlaces()))
	for {
		do(slices.Clone(at))
		i := 0
		for i < len(at) && at[i] == things-1 {
			at[i] = nothing
			i++
		}
		if i == len(at) {
			return
		}
		at[i]++
	}
}

// P12.2: all small worlds.
func TestFindInAllWorlds(t *testing.T) {
	found, none := 0, 0
	eachWorld(func(at []thing) {
		s := world(t, at)
		first, end, _ := expected(at)
		if first < 0 {
			none++
			wantNotFound(t, s, smallQuery(), api.ErrSearch)
			return
		}
		found++
		wantFound(t, s, smallQuery(), smallPlaces()[end], identity(at, end))
	})
	if found+none != 1024 || found < 100 || none < 100 {
		t.Errorf("found in %d worlds, and not in %d", found, none)
	}
}

// P12.3: in all small worlds, whatever becomes of a later candidate has no influence, if none before it leads there.
func TestLaterCandidatesHaveNoInfluence(t *testing.T) {
	changes := 0
	eachWorld(func(at []thing) {
		first, end, seen := expected(at)
		if first < 0 {
			return
		}
		s := world(t, at)
		for i := first + 1; i < len(at); i++ {
			if seen[i] {
				continue
			}
			for what := range things {
				changeAt(t, s, i, what)
				changes++
				wantFound(t, s, smallQuery(), smallPlaces()[end], identity(at, end))
			}
		}
	})
	if changes < 1000 {
		t.Errorf("%d changes", changes)
	}
}

// P12.3: in all small worlds, what is taken from a later candidate to which an earlier one leads is missed there, too.
func TestLaterCandidatesWhereLinksLead(t *testing.T) {
	changes := 0
	eachWorld(func(at []thing) {
		first, _, seen := expected(at)
		for i := max(first, 0) + 1; first >= 0 && i < len(at); i++ {
			if !seen[i] {
				continue
			}
			s := world(t, at)
			changeAt(t, s, i, nothing)
			changes++
			now := slices.Clone(at)
			now[i] = nothing
			if next, end, _ := expected(now); next < 0 {
				wantNotFound(t, s, smallQuery(), api.ErrSearch)
			} else {
				wantFound(t, s, smallQuery(), smallPlaces()[end], identity(at, end))
			}
		}
	})
	if changes < 100 {
		t.Errorf("%d changes", changes)
	}
}

// P12.3: a candidate that is a link to a later one has what that one has, and goes with it.
func TestLinkToLaterCandidate(t *testing.T) {
	s := storeWith(t, "/r", "/e", "/lib")
	must(t, s.Symlink("/r/b", "/lib/b"))
	q := asked("b", "/p", "/r").paths("/e")
	wantNotFound(t, s, q, api.ErrSearch)
	put(t, s, "/e/b")
	wantFound(t, s, q, "/e/b", 1)
	put(t, s, "/lib/b")
	wantFound(t, s, q, "/lib/b", 2)
	put(t, s, "/lib/b")
	wantFound(t, s, q, "/lib/b", 3)
	put(t, s, "/e/b")
	wantFound(t, s, q, "/lib/b", 3)
	must(t, s.Remove("/lib/b"))
	wantFound(t, s, q, "/e/b", 4)
	must(t, s.Mkdir("/lib/b"))
	wantFound(t, s, q, "/e/b", 4)
}

// P12.3: a candidate that is found as it is does not ask whether a later one is a link to it.
func TestLinkToEarlierCandidate(t *testing.T) {
	s := storeWith(t, "/r", "/e", "/lib")
	must(t, s.Symlink("/e/b", "/r/b"), s.Symlink("/lib/b", "../r/b"))
	q := asked("b", "/p", "/r").paths("/e")
	wantNotFound(t, s, q, api.ErrSearch)
	put(t, s, "/r/b")
	wantFound(t, s, q, "/r/b", 1)
	must(t, s.Remove("/e/b"), s.Remove("/lib/b"))
	wantFound(t, s, q, "/r/b", 1)
}

// P12.3: a file that is at two candidates, under one identity, is found at the first one.
func TestSameFileAtLaterCandidate(t *testing.T) {
	s := storeWith(t, "/r", "/lib")
	put(t, s, "/lib/b")
	must(t, s.Also("/r/b", "/lib/b"))
	q := asked("b", "/p", "/r")
	wantFound(t, s, q, "/r/b", 1)
	put(t, s, "/lib/b")
	wantFound(t, s, q, "/r/b", 1)
	must(t, s.Remove("/lib/b"), s.Mkdir("/lib/b"))
	wantFound(t, s, q, "/r/b", 1)
}

// P12.3: neither do directories of later candidates matter, nor what is in them.
func TestLaterDirectories(t *testing.T) {
	s := storeWith(t, "/r")
	put(t, s, "/r/b")
	q := asked("b", "/p", "/none", "/r", "/later").paths("/e").cache("b", "/c")
	wantFound(t, s, q, "/r/b", 1)
	put(t, s, "/later", "/c", "/lib")
	must(t, s.Symlink("/e", "/r"), s.Symlink("/usr", "usr"))
	wantFound(t, s, q, "/r/b", 1)
	q.runPath[2] = "$X"
	wantFound(t, s, q.paths("", "$", "e").cache("b", "b"), "/r/b", 1)
}
