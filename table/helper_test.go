package table_test

import (
	"slices"
	"strconv"
	"testing"

	"clevis/api"
	"clevis/table"
)

// def is an open function that is defined.
func def(name, version string, isOld bool) api.Symbol {
	return api.Symbol{Name: name, Version: version, Old: isOld, Kind: api.Func, Defined: true, Value: 64, Size: 8}
}

func ref(name, version string) api.Symbol {
	return api.Symbol{Name: name, Version: version, Kind: api.Func}
}

func hidden(name, version string) api.Symbol {
	s := def(name, version, false)
	s.Vis = api.Hidden
	return s
}

func protected(name, version string) api.Symbol {
	s := def(name, version, false)
	s.Vis = api.Protected
	return s
}

func nameOf(i int) string { return "name" + strconv.Itoa(i) }

// seenSyms are so many definitions that may be looked up, each with a name of its own.
func seenSyms(n int) []api.Symbol {
	syms := make([]api.Symbol, n)
	for i := range syms {
		syms[i] = def(nameOf(i), "", false)
	}
	return syms
}

// mixedSyms are n symbols by a rule: names several times, with and without versions, old ones, hidden ones, and such that are not defined.
func mixedSyms(n int) []api.Symbol {
	syms := make([]api.Symbol, n)
	for i := range syms {
		s := def(nameOf(i*i%(n+1)), "", false)
		if i%3 == 1 {
			s.Version = "V" + strconv.Itoa(i%4)
			s.Old = i%2 == 0
		}
		switch {
		case i%7 == 2:
			s.Vis = api.Hidden
		case i%7 == 4:
			s.Vis = api.Protected
		case i%11 == 5:
			s = ref(s.Name, s.Version)
		}
		syms[i] = s
	}
	return syms
}

// between puts a hidden definition or a reference ahead of each symbol, and one of them behind all.
func between(syms []api.Symbol) []api.Symbol {
	var all []api.Symbol
	for i, s := range syms {
		if i%2 == 0 {
			all = append(all, hidden(s.Name, "V"), s)
		} else {
			all = append(all, ref(s.Name, ""), s)
		}
	}
	return append(all, hidden("last", ""))
}

// someRefs are references to the names of symbols and to others, with and without versions.
func someRefs(syms []api.Symbol) []api.Symbol {
	var refs []api.Symbol
	for i := range len(syms) + 3 {
		for _, version := range []string{"", "V0", "V1", "V9"} {
			refs = append(refs, ref(nameOf(i), version))
		}
	}
	return append(refs, ref("", ""), ref("", "V1"), ref("other", ""))
}

// hashOf is by the definition in numbers that have no limit of 32 bits.
func hashOf(name string) int {
	h := 5381
	for i := range len(name) {
		h = (33*h + int(name[i])) % (1 << 32)
	}
	return h
}

// place is a bit of a filter: by the definition in divisions.
type place struct{ word, bit int }

func placesOf(words, shift, hash int) [2]place {
	word, bit := hash/64%words, hash%64
	for range shift {
		hash /= 2
	}
	return [2]place{{word, bit}, {word, hash % 64}}
}

// filterOf returns a filter in which exactly the bits of the names of the symbols that may be looked up are 1.
func filterOf(words, shift int, syms ...api.Symbol) api.Filter {
	f := api.Filter{Words: make([]uint64, words), Shift: shift}
	for _, s := range syms {
		if isSeen(s) {
			for _, p := range placesOf(words, shift, hashOf(s.Name)) {
				f.Words[p.word] |= 1 << p.bit
			}
		}
	}
	return f
}

func isFilter(f api.Filter) bool {
	return slices.Contains([]int{1, 2, 4, 8, 16, 32, 64}, len(f.Words)) && 1 <= f.Shift && f.Shift <= 31
}

func lacks(f api.Filter, name string) bool {
	if !isFilter(f) {
		return false
	}
	for _, p := range placesOf(len(f.Words), f.Shift, hashOf(name)) {
		if f.Words[p.word]>>p.bit%2 == 0 {
			return true
		}
	}
	return false
}

func isSeen(s api.Symbol) bool { return s.Defined && s.Vis != 2 }

func countSeen(syms []api.Symbol) int {
	n := 0
	for _, s := range syms {
		if isSeen(s) {
			n++
		}
	}
	return n
}

// bucketOf asks each symbol whether this bucket is its own.
func bucketOf(at, count int, syms ...api.Symbol) []int {
	var bucket []int
	for i, s := range syms {
		if isSeen(s) && hashOf(s.Name)%count == at {
			bucket = append(bucket, i)
		}
	}
	return bucket
}

func bucketsOf(count int, syms ...api.Symbol) [][]int {
	buckets := make([][]int, count)
	for at := range buckets {
		buckets[at] = bucketOf(at, count, syms...)
	}
	return buckets
}

// tableOf is a valid table of the form that is asked for.
func tableOf(buckets, words, shift int, syms ...api.Symbol) api.Table {
	return api.Table{Buckets: bucketsOf(buckets, syms...), Filter: filterOf(words, shift, syms...)}
}

// isValid takes the document's conditions one by one.
func isValid(t api.Table, syms ...api.Symbol) bool {
	if len(syms) > 512 || len(t.Buckets) < 1 || len(t.Buckets) > 512 || !isFilter(t.Filter) {
		return false
	}
	occurs := make([]bool, len(syms))
	for at, bucket := range t.Buckets {
		for k, i := range bucket {
			if i < 0 || i >= len(syms) || k > 0 && bucket[k-1] >= i {
				return false
			}
			if !isSeen(syms[i]) || hashOf(syms[i].Name)%len(t.Buckets) != at {
				return false
			}
			occurs[i] = true
		}
	}
	for i, s := range syms {
		if isSeen(s) && (!occurs[i] || lacks(t.Filter, s.Name)) {
			return false
		}
	}
	return true
}

func isVersioned(syms []api.Symbol) bool {
	return slices.ContainsFunc(syms, func(s api.Symbol) bool { return s.Defined && s.Version != "" })
}

func isMatch(r, d api.Symbol, versioned bool) bool {
	if r.Name != d.Name || !isSeen(d) {
		return false
	}
	if r.Version == "" {
		return !d.Old
	}
	return d.Version == r.Version || !versioned
}

// firstOf goes through all symbols in order.
func firstOf(r api.Symbol, syms []api.Symbol) int {
	versioned := isVersioned(syms)
	return slices.IndexFunc(syms, func(d api.Symbol) bool { return isMatch(r, d, versioned) })
}

func cloneTable(t api.Table) api.Table {
	c := api.Table{Filter: api.Filter{Words: slices.Clone(t.Filter.Words), Shift: t.Filter.Shift}}
	for _, bucket := range t.Buckets {
		c.Buckets = append(c.Buckets, slices.Clone(bucket))
	}
	return c
}

func sameTable(t, u api.Table) bool {
	isSame := t.Filter.Shift == u.Filter.Shift && slices.Equal(t.Filter.Words, u.Filter.Words)
	return isSame && slices.EqualFunc(t.Buckets, u.Buckets, slices.Equal[[]int])
}

func mustMake(t *testing.T, syms ...api.Symbol) api.Table {
	t.Helper()
	made, e := table.Make(syms...)
	if e != api.OK {
		t.Fatalf("Make of %d symbols: %d", len(syms), e)
	}
	return made
}

func wantRight(t *testing.T, what string, want api.Errno, tab api.Table, syms ...api.Symbol) {
	t.Helper()
	if e := table.Right(tab, syms...); e != want {
		t.Errorf("%s: Right is %d, want %d: %v of %d symbols", what, e, want, tab, len(syms))
	}
}

func wantFind(t *testing.T, tab api.Table, r api.Symbol, index, examined int, syms ...api.Symbol) {
	t.Helper()
	if i, n := table.Find(tab, r, syms...); i != index || n != examined {
		t.Errorf("Find of %q, version %q: %d and %d, want %d and %d: %v of %d symbols", r.Name, r.Version, i, n, index, examined, tab, len(syms))
	}
}
