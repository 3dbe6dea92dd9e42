package table_test

import (
	"math"
	"slices"
	"testing"

	"clevis/api"
	"clevis/table"
)

// The examples of the chapter: the filter of f and g lacks h, and one with all bits does not.
func TestExamples(t *testing.T) {
	syms := []api.Symbol{def("f", "", false), def("g", "", false)}
	made := mustMake(t, syms...)
	if len(made.Buckets) != 1 || len(made.Filter.Words) != 1 {
		t.Fatalf("Make of f and g: %v", made)
	}
	wantFind(t, made, ref("f", ""), 0, 1, syms...)
	wantFind(t, made, ref("g", ""), 1, 2, syms...)
	if !lacks(made.Filter, "h") {
		t.Fatal("the filter has h")
	}
	wantFind(t, made, ref("h", ""), -1, 0, syms...)
	made.Filter.Words[0] = math.MaxUint64
	wantFind(t, made, ref("h", ""), -1, 2, syms...)
}

// wantFirst holds Find by a valid table against going through all symbols, and through the bucket.
func wantFirst(t *testing.T, tab api.Table, r api.Symbol, syms ...api.Symbol) {
	t.Helper()
	count := len(tab.Buckets)
	bucket := bucketOf(hashOf(r.Name)%count, count, syms...)
	index := firstOf(r, syms)
	examined := len(bucket)
	switch {
	case lacks(tab.Filter, r.Name):
		examined = 0
	case index >= 0:
		examined = slices.Index(bucket, index) + 1
	}
	wantFind(t, tab, r, index, examined, syms...)
}

// P8.2 and P8.3: no symbol, one, a few and many; the tables that Make returns.
func TestFindByMadeTables(t *testing.T) {
	for _, n := range []int{0, 1, 2, 4, 5, 8, 9, 17, 33, 65, 129, 257, 511, 512} {
		for _, syms := range [][]api.Symbol{seenSyms(n), mixedSyms(n), between(seenSyms(n / 3)), between(mixedSyms(n / 3))} {
			made := mustMake(t, syms...)
			for _, r := range someRefs(syms) {
				wantFirst(t, made, r, syms...)
			}
		}
	}
}

// P8.2 and P8.3: valid tables of all forms, with 1 and with 512 buckets, with 1 and with 64 words, and with filters that lack nothing.
func TestFindByEachForm(t *testing.T) {
	for _, syms := range [][]api.Symbol{nil, seenSyms(3), mixedSyms(40), between(mixedSyms(50))} {
		for _, buckets := range []int{1, 2, 5, 64, 511, 512} {
			for _, words := range []int{1, 64} {
				for _, shift := range []int{1, 6, 31} {
					tab := tableOf(buckets, words, shift, syms...)
					all := tab
					all.Filter.Words = slices.Repeat([]uint64{math.MaxUint64}, words)
					wantRight(t, "a valid table", api.OK, tab, syms...)
					for _, r := range someRefs(syms) {
						wantFirst(t, tab, r, syms...)
						wantFirst(t, all, r, syms...)
					}
				}
			}
		}
	}
}

// P8.2: several definitions of a name: the version of a reference decides, and old ones are found by their version alone.
func TestFindOfVersions(t *testing.T) {
	syms := []api.Symbol{hidden("f", ""), def("f", "V1", true), ref("f", "V4"), def("f", "V2", true), def("f", "V3", false), protected("g", "")}
	made := mustMake(t, syms...)
	wantFind(t, made, ref("f", ""), 4, 3, syms...)
	wantFind(t, made, ref("f", "V1"), 1, 1, syms...)
	wantFind(t, made, ref("f", "V2"), 3, 2, syms...)
	wantFind(t, made, ref("f", "V3"), 4, 3, syms...)
	wantFind(t, made, ref("f", "V4"), -1, 4, syms...)
	wantFind(t, made, ref("g", ""), 5, 4, syms...)
	wantFind(t, made, ref("g", "V1"), -1, 4, syms...)
}

// P8.2: whether the symbols have versions is asked of all of them: a hidden definition counts, wherever it stands, and a reference does not.
func TestFindOfUnversioned(t *testing.T) {
	plain := []api.Symbol{def("g", "", false), def("f", "", false), ref("h", "V1"), ref("f", "V1")}
	wantFind(t, mustMake(t, plain...), ref("f", "V1"), 1, 2, plain...)
	wantFind(t, mustMake(t, plain...), ref("f", "V2"), 1, 2, plain...)
	for at := range len(plain) + 1 {
		syms := slices.Insert(slices.Clone(plain), at, hidden("other", "V1"))
		wantFind(t, mustMake(t, syms...), ref("f", "V1"), -1, 2, syms...)
		wantFirst(t, mustMake(t, syms...), ref("f", ""), syms...)
	}
}

// P8.2: the first one of several that match, and names that share a hash with another name.
func TestFindOfEqualHashes(t *testing.T) {
	syms := []api.Symbol{def("bA", "", false), hidden("ab", ""), def("ab", "", false), def("ab", "", false), def("bA", "", false)}
	made := mustMake(t, syms...)
	wantFind(t, made, ref("ab", ""), 2, 2, syms...)
	wantFind(t, made, ref("bA", ""), 0, 1, syms...)
	wantFind(t, mustMake(t, syms[:2]...), ref("ab", ""), -1, 1, syms[:2]...)
}

// P8.2: what else a reference has makes no difference; a definition may be the reference.
func TestFindOfOtherFields(t *testing.T) {
	syms := mixedSyms(60)
	made := mustMake(t, syms...)
	for _, s := range syms {
		wantFirst(t, made, s, syms...)
		s.Old, s.Kind, s.Weak, s.Vis, s.Defined, s.Value, s.Size = !s.Old, -3, true, api.Hidden, !s.Defined, -1, math.MaxInt
		wantFirst(t, made, s, syms...)
	}
}

// P8.2: without buckets nothing is found, whatever the filter.
func TestFindWithoutBuckets(t *testing.T) {
	syms := seenSyms(3)
	for _, filter := range []api.Filter{{}, filterOf(1, 6, syms...), {Words: []uint64{math.MaxUint64}, Shift: 6}} {
		wantFind(t, api.Table{Filter: filter}, syms[0], -1, 0, syms...)
		wantFind(t, api.Table{Buckets: [][]int{}, Filter: filter}, syms[0], -1, 0, syms...)
	}
	wantFind(t, api.Table{}, ref("", ""), -1, 0)
}

// P8.2: a filter that lacks a name hides what the buckets have; one bit of two is not enough.
func TestFindWithoutFilter(t *testing.T) {
	syms := mixedSyms(20)
	for _, words := range []int{1, 8, 64} {
		good := tableOf(4, words, 6, syms...)
		for _, s := range syms {
			for _, p := range placesOf(words, 6, hashOf(s.Name)) {
				bad := cloneTable(good)
				bad.Filter.Words[p.word] &^= 1 << p.bit
				wantFind(t, bad, s, -1, 0, syms...)
			}
		}
	}
}

// P8.2 with P2.3: a filter that is not valid lacks nothing, so that the buckets decide.
func TestFindByWrongFilter(t *testing.T) {
	syms := mixedSyms(20)
	tab := tableOf(4, 1, 6, syms...)
	for _, filter := range []api.Filter{{}, {Words: make([]uint64, 3), Shift: 6}, {Words: make([]uint64, 128), Shift: 6}, {Words: make([]uint64, 1)}, {Words: make([]uint64, 1), Shift: 32}, {Words: make([]uint64, 2), Shift: -1}} {
		tab.Filter = filter
		for _, r := range someRefs(syms) {
			wantFirst(t, tab, r, syms...)
		}
	}
}

// ones is a table with these buckets, and a filter that lacks nothing.
func ones(buckets ...[]int) api.Table {
	return api.Table{Buckets: buckets, Filter: api.Filter{Words: []uint64{math.MaxUint64}, Shift: 6}}
}

// P8.2: indices of no symbol are skipped and do not count; those of hidden ones and of references count.
func TestFindByWrongIndices(t *testing.T) {
	syms := []api.Symbol{hidden("f", ""), def("f", "", false), ref("f", ""), def("g", "", false)}
	for _, c := range []struct {
		bucket          []int
		index, examined int
	}{
		{nil, -1, 0},
		{[]int{-1}, -1, 0},
		{[]int{4}, -1, 0},
		{[]int{-1, 4, 5, 512, math.MaxInt, math.MinInt, 1 << 32, 1<<32 + 1, -1 << 32}, -1, 0},
		{[]int{-1, 1}, 1, 1},
		{[]int{4, 0, -3, 2, math.MaxInt, 1, 3}, 1, 3},
		{[]int{0, 2, 3}, -1, 3},
		{[]int{0, 0, 0}, -1, 3},
		{[]int{3, 3, math.MinInt, 1, 1}, 1, 3},
		{[]int{3, 2, 1, 0}, 1, 3},
	} {
		wantFind(t, ones(c.bucket), ref("f", ""), c.index, c.examined, syms...)
		wantFind(t, ones(c.bucket), ref("f", ""), -1, 0)
	}
}

// P8.2: the order in the bucket decides, even where it is not that of the symbols.
func TestFindInOrderOfBucket(t *testing.T) {
	syms := slices.Repeat([]api.Symbol{def("f", "", false)}, 4)
	wantFind(t, ones([]int{2, 0, 1, 3}), ref("f", ""), 2, 1, syms...)
	wantFind(t, ones([]int{9, 3, 0}), ref("f", ""), 3, 1, syms...)
}

// P8.2: only the bucket of the name is gone through.
func TestFindInOwnBucket(t *testing.T) {
	syms := []api.Symbol{def("a", "", false), def("b", "", false)}
	if hashOf("a")%2 != 0 || hashOf("b")%2 != 1 {
		t.Fatal("the names have other buckets")
	}
	wantFind(t, ones([]int{0}, []int{1}), ref("a", ""), 0, 1, syms...)
	wantFind(t, ones([]int{0}, []int{1}), ref("b", ""), 1, 1, syms...)
	wantFind(t, ones([]int{1}, []int{0}), ref("a", ""), -1, 1, syms...)
	wantFind(t, ones([]int{}, []int{0, 1}), ref("a", ""), -1, 0, syms...)
}

// P8.2: Find asks neither for the number of buckets nor for that of the symbols.
func TestFindInLongTables(t *testing.T) {
	syms := mixedSyms(600)
	for _, buckets := range []int{513, 1000, 4099} {
		tab := tableOf(buckets, 64, 6, syms...)
		for _, r := range someRefs(syms) {
			wantFirst(t, tab, r, syms...)
		}
	}
}

// P8.3: symbols are examined for a name that the filter has, and never more than the bucket of the name has.
func TestFindExaminesOwnBucket(t *testing.T) {
	for _, n := range []int{1, 6, 60, 512} {
		syms := mixedSyms(n)
		made := mustMake(t, syms...)
		for _, r := range someRefs(syms) {
			count := len(made.Buckets)
			most := len(bucketOf(hashOf(r.Name)%count, count, syms...))
			i, examined := table.Find(made, r, syms...)
			if examined > most || (examined == 0) != (most == 0 || lacks(made.Filter, r.Name)) || examined == 0 && i != -1 {
				t.Errorf("Find of %q of %d symbols: %d and %d, at most %d", r.Name, n, i, examined, most)
			}
		}
	}
}

// W6: Find leaves its arguments as they are, the spare symbols too, and asks nothing of these.
func TestFindLeavesArguments(t *testing.T) {
	syms := mixedSyms(60)
	syms[59] = def("spare", "V", false)
	was := slices.Clone(syms)
	tab := tableOf(3, 2, 6, syms...)
	copied := cloneTable(tab)
	wantFind(t, tab, ref("spare", ""), 59, len(tab.Buckets[hashOf("spare")%3]), syms...)
	wantFind(t, tab, ref("spare", ""), -1, len(tab.Buckets[hashOf("spare")%3])-1, syms[:59]...)
	if !slices.Equal(syms, was) || !sameTable(tab, copied) {
		t.Error("arguments changed")
	}
}
