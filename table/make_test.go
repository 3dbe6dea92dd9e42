package table_test

import (
	"math"
	"slices"
	"testing"

	"clevis/api"
	"clevis/table"
)

// P8.1: a bucket for each four symbols, and at least one.
func TestCount(t *testing.T) {
	for _, c := range []struct{ n, want int }{
		{0, 1}, {1, 1}, {3, 1}, {4, 1}, {5, 2}, {7, 2}, {8, 2}, {9, 3}, {12, 3}, {13, 4}, {511, 128}, {512, 128}, {513, 129}, {2048, 512}, {2049, 513},
		{1 << 32, 1 << 30}, {1<<32 + 1, 1<<30 + 1},
	} {
		if got := table.Count(c.n); got != c.want {
			t.Errorf("Count(%d) is %d, want %d", c.n, got, c.want)
		}
	}
}

// P8.1: the least number, from 1 on, that leaves no bucket with more than four symbols.
func TestCountByDefinition(t *testing.T) {
	for n := -50; n <= 3000; n++ {
		want := 1
		for want*4 < n {
			want++
		}
		if got := table.Count(n); got != want {
			t.Errorf("Count(%d) is %d, want %d", n, got, want)
		}
	}
}

// P8.1 with W1: numbers at the ends of an int.
func TestCountAtEnds(t *testing.T) {
	for n, want := range map[int]int{
		math.MaxInt: 1 << 61, math.MaxInt - 1: 1 << 61, math.MaxInt - 2: 1 << 61, math.MaxInt - 3: 1<<61 - 1, math.MaxInt - 7: 1<<61 - 2,
		math.MinInt: 1, math.MinInt + 1: 1, -1: 1, -4: 1, -5: 1,
	} {
		if got := table.Count(n); got != want {
			t.Errorf("Count(%d) is %d, want %d", n, got, want)
		}
	}
}

// P8.1: tables that were worked out by hand: the hashes of a to g are 177670 to 177676, so that their second bits are all bit 24.
func TestMakeByHand(t *testing.T) {
	a, b, c, d, e := def("a", "", false), def("b", "", false), def("c", "", false), def("d", "", false), def("e", "", false)
	f, g := def("f", "", false), def("g", "", false)
	for _, x := range []struct {
		syms    []api.Symbol
		buckets [][]int
		word    uint64
	}{
		{nil, [][]int{{}}, 0},
		{[]api.Symbol{hidden("f", ""), ref("g", "")}, [][]int{{}}, 0},
		{[]api.Symbol{f}, [][]int{{0}}, 1<<24 | 1<<11},
		{[]api.Symbol{f, g}, [][]int{{0, 1}}, 1<<24 | 1<<11 | 1<<12},
		{[]api.Symbol{f, hidden("a", "V"), g, ref("b", "")}, [][]int{{0, 2}}, 1<<24 | 1<<11 | 1<<12},
		{[]api.Symbol{a, b, c, d}, [][]int{{0, 1, 2, 3}}, 1<<24 | 0xf<<6},
		{[]api.Symbol{a, b, c, d, e}, [][]int{{0, 2, 4}, {1, 3}}, 1<<24 | 0x1f<<6},
		{[]api.Symbol{e, d, hidden("x", ""), c, b, a}, [][]int{{0, 3, 5}, {1, 4}}, 1<<24 | 0x1f<<6},
		{[]api.Symbol{def("a", "V1", true), a, c, def("a", "V2", false), b}, [][]int{{0, 1, 2, 3}, {4}}, 1<<24 | 7<<6},
	} {
		want := api.Table{Buckets: x.buckets, Filter: api.Filter{Words: []uint64{x.word}, Shift: 6}}
		if got := mustMake(t, x.syms...); !sameTable(got, want) {
			t.Errorf("Make of %+v: %v, want %v", x.syms, got, want)
		}
	}
}

// wordsOf has the document's condition for each number of symbols as a list of the numbers up to which a filter has so many words.
func wordsOf(seen int) int {
	upTo := []struct{ seen, words int }{{8, 1}, {16, 2}, {32, 4}, {64, 8}, {128, 16}, {256, 32}, {512, 64}}
	at := slices.IndexFunc(upTo, func(u struct{ seen, words int }) bool { return seen <= u.seen })
	return upTo[at].words
}

func wantMade(t *testing.T, syms ...api.Symbol) {
	t.Helper()
	seen := countSeen(syms)
	want := tableOf(max(1, (seen+3)/4), wordsOf(seen), 6, syms...)
	got := mustMake(t, syms...)
	if !sameTable(got, want) {
		t.Errorf("Make of %d symbols, %d of them seen: %v, want %v", len(syms), seen, got, want)
	}
	wantRight(t, "what Make returns", api.OK, got, syms...)
}

// P8.1 and P8.3: no symbol, one, a few and many, up to 512; among them 4 and 5, and each number at which the words double.
func TestMakeOfEachNumber(t *testing.T) {
	for n := range 513 {
		syms := seenSyms(n)
		wantMade(t, syms...)
		if made := mustMake(t, syms...); len(made.Buckets)*4 < n {
			t.Errorf("%d buckets of %d symbols", len(made.Buckets), n)
		}
	}
}

// P8.1: only symbols that are seen count for the buckets and the words, however many others there are.
func TestMakeCountsSeen(t *testing.T) {
	for _, n := range []int{0, 1, 4, 5, 8, 9, 16, 17, 32, 33, 64, 65, 128, 129, 255} {
		wantMade(t, between(seenSyms(n))...)
		rest := slices.Repeat([]api.Symbol{hidden("h", "V")}, 512-n)
		wantMade(t, append(rest, seenSyms(n)...)...)
		for i := range rest {
			rest[i] = ref(nameOf(i), "")
		}
		wantMade(t, append(seenSyms(n), rest...)...)
	}
}

// P8.1: names several times, old and not old, with and without versions, protected ones, and others between.
func TestMakeOfMixed(t *testing.T) {
	for _, n := range []int{1, 2, 3, 10, 40, 100, 300, 511, 512} {
		wantMade(t, mixedSyms(n)...)
		wantMade(t, slices.Repeat([]api.Symbol{protected("p", "V")}, n)...)
	}
}

// P8.1 with W3: more than 512 symbols are refused, whether they are seen or not.
func TestMakeRefusesTooMany(t *testing.T) {
	for _, n := range []int{513, 514, 1024, 5000} {
		for _, syms := range [][]api.Symbol{
			seenSyms(n), mixedSyms(n), make([]api.Symbol, n), slices.Repeat([]api.Symbol{hidden("h", "")}, n), slices.Repeat([]api.Symbol{ref("r", "")}, n),
		} {
			made, e := table.Make(syms...)
			if e != api.ErrLong || len(made.Buckets) != 0 || len(made.Filter.Words) != 0 || made.Filter.Shift != 0 {
				t.Errorf("Make of %d symbols: %v, %d", n, made, e)
			}
		}
	}
	wantMade(t, make([]api.Symbol, 512)...)
	wantMade(t, slices.Repeat([]api.Symbol{hidden("h", "")}, 512)...)
}

// P8.1 with W1: Make asks of a symbol only whether it is seen, not whether it is valid.
func TestMakeOfWrongSymbols(t *testing.T) {
	wrong := []api.Symbol{{}, {Defined: true}, {Name: "\xff\x00", Defined: true}, {Name: "f", Vis: 3, Defined: true}, {Name: "g", Vis: -1, Defined: true},
		{Name: "h", Vis: 2, Defined: true}, {Name: "i", Old: true, Kind: -1, Defined: true, Value: math.MinInt}, {Name: "j", Old: true}}
	wantMade(t, wrong...)
	wantMade(t, slices.Repeat(wrong, 64)...)
}

// W6: Make and Right leave the symbols as they are, the spare ones too, and Right leaves the table.
func TestMakeLeavesArguments(t *testing.T) {
	syms := mixedSyms(60)
	was := slices.Clone(syms)
	made := mustMake(t, syms[:50]...)
	copied := cloneTable(made)
	wantRight(t, "what Make returns", api.OK, made, syms[:50]...)
	wantRight(t, "of other symbols", api.ErrTable, made, syms...)
	if !slices.Equal(syms, was) || !sameTable(made, copied) {
		t.Error("arguments changed")
	}
}

// overwrite changes all that can be reached from a bucket: its spare capacity, too.
func overwrite(bucket []int) {
	bucket = bucket[:cap(bucket)]
	for i := range bucket {
		bucket[i] = -7
	}
}

// W6: no two buckets share memory, nor do two results.
func TestMakeSharesNothing(t *testing.T) {
	syms := mixedSyms(100)
	want := tableOf(mustCount(t, syms), wordsOf(countSeen(syms)), 6, syms...)
	for at := range want.Buckets {
		made, other := mustMake(t, syms...), mustMake(t, syms...)
		overwrite(made.Buckets[at])
		clear(made.Filter.Words)
		made.Buckets[at], made.Filter = want.Buckets[at], want.Filter
		if !sameTable(made, want) || !sameTable(other, want) {
			t.Errorf("bucket %d shares memory", at)
		}
	}
}

func mustCount(t *testing.T, syms []api.Symbol) int {
	t.Helper()
	n := table.Count(countSeen(syms))
	if n < 2 {
		t.Fatalf("%d buckets are too few", n)
	}
	return n
}

// W2: the same calls return the same results, whatever was called between.
func TestCallsDependOnNothingElse(t *testing.T) {
	few, many := mixedSyms(7), mixedSyms(400)
	one, other := mustMake(t, few...), mustMake(t, many...)
	for range 3 {
		if !sameTable(mustMake(t, few...), one) || !sameTable(mustMake(t, many...), other) {
			t.Error("another table of the same symbols")
		}
		wantRight(t, "few", api.OK, one, few...)
		wantRight(t, "many", api.ErrTable, one, many...)
		wantFind(t, other, many[0], 0, 1, many...)
	}
}
