package table_test

import (
	"math"
	"slices"
	"testing"

	"clevis/api"
)

// P8.1: any number of buckets from 1 to 512 with any valid filter is right, if it has what it must; Make's choice is but one.
func TestRightOfEachForm(t *testing.T) {
	for _, syms := range [][]api.Symbol{nil, {hidden("h", "")}, {def("f", "", false)}, mixedSyms(30), mixedSyms(200), seenSyms(512)} {
		for _, buckets := range []int{1, 2, 3, 7, 64, 128, 511, 512} {
			wantRight(t, "buckets", api.OK, tableOf(buckets, 4, 6, syms...), syms...)
		}
		for _, words := range []int{1, 2, 4, 8, 16, 32, 64} {
			for _, shift := range []int{1, 2, 6, 30, 31} {
				wantRight(t, "filter", api.OK, tableOf(5, words, shift, syms...), syms...)
			}
		}
	}
}

// P8.1: a filter may have more bits than the names', and a bucket that is empty may be nil or not.
func TestRightOfMoreBits(t *testing.T) {
	syms := mixedSyms(20)
	full := tableOf(512, 64, 6, syms...)
	for i := range full.Filter.Words {
		full.Filter.Words[i] = math.MaxUint64
	}
	wantRight(t, "all bits", api.OK, full, syms...)
	for at, bucket := range full.Buckets {
		if len(bucket) == 0 {
			full.Buckets[at] = []int{}
		}
	}
	wantRight(t, "empty buckets", api.OK, full, syms...)
}

// P8.1: no buckets, and more than 512, with and without symbols.
func TestRightRefusesBuckets(t *testing.T) {
	for _, syms := range [][]api.Symbol{nil, {ref("r", "")}, seenSyms(1), mixedSyms(100)} {
		none := api.Table{Filter: filterOf(1, 6, syms...)}
		wantRight(t, "no buckets", api.ErrTable, none, syms...)
		none.Buckets = [][]int{}
		wantRight(t, "no buckets", api.ErrTable, none, syms...)
		for _, buckets := range []int{513, 514, 1024, 4096} {
			wantRight(t, "too many buckets", api.ErrTable, tableOf(buckets, 1, 6, syms...), syms...)
		}
	}
	wantRight(t, "nothing", api.ErrTable, api.Table{})
	wantRight(t, "buckets alone", api.ErrTable, api.Table{Buckets: [][]int{{}}})
}

// P8.1: more than 512 symbols, of which none or some are seen, make each table wrong.
func TestRightRefusesSymbols(t *testing.T) {
	for _, syms := range [][]api.Symbol{make([]api.Symbol, 513), seenSyms(513), mixedSyms(600), slices.Repeat([]api.Symbol{hidden("h", "")}, 513)} {
		wantRight(t, "too many symbols", api.ErrTable, tableOf(128, 64, 6, syms...), syms...)
		wantRight(t, "as many as may be", api.OK, tableOf(128, 64, 6, syms[:512]...), syms[:512]...)
	}
}

// P8.1: filters of a form that is not valid, although they have all bits.
func TestRightRefusesFilters(t *testing.T) {
	for _, syms := range [][]api.Symbol{nil, seenSyms(1), mixedSyms(40)} {
		good := tableOf(3, 1, 6, syms...)
		wantRight(t, "a valid filter", api.OK, good, syms...)
		for _, words := range []int{0, 3, 5, 6, 63, 65, 128} {
			good.Filter = api.Filter{Words: slices.Repeat([]uint64{math.MaxUint64}, words), Shift: 6}
			wantRight(t, "a wrong number of words", api.ErrTable, good, syms...)
		}
		for _, shift := range []int{0, -1, 32, 33, 64, math.MinInt, math.MaxInt} {
			good.Filter = api.Filter{Words: []uint64{math.MaxUint64}, Shift: shift}
			wantRight(t, "a wrong shift", api.ErrTable, good, syms...)
		}
	}
}

// P8.1: a filter that lacks one bit of one name; each word and each shift has its turn.
func TestRightRefusesLacking(t *testing.T) {
	syms := mixedSyms(60)
	for _, words := range []int{1, 2, 8, 64} {
		for _, shift := range []int{1, 6, 31} {
			good := tableOf(16, words, shift, syms...)
			for _, s := range syms {
				for _, p := range placesOf(words, shift, hashOf(s.Name)) {
					bad := cloneTable(good)
					bad.Filter.Words[p.word] &^= 1 << p.bit
					want := api.ErrTable
					if sameTable(bad, good) {
						want = api.OK // only a name that may not be looked up has this bit
					}
					wantRight(t, "a bit is missing", want, bad, syms...)
				}
			}
		}
	}
	none := tableOf(16, 64, 6, syms...)
	clear(none.Filter.Words)
	wantRight(t, "all bits are missing", api.ErrTable, none, syms...)
	wantRight(t, "the first name alone", api.ErrTable, api.Table{Buckets: bucketsOf(16, syms...), Filter: filterOf(64, 6, syms[0])}, syms...)
	wantRight(t, "a filter of another shift", api.ErrTable, api.Table{Buckets: bucketsOf(16, syms...), Filter: api.Filter{Words: filterOf(64, 6, syms...).Words, Shift: 9}}, syms...)
}

// changed returns the table with another bucket in the place of one.
func changed(tab api.Table, at int, bucket ...int) api.Table {
	c := cloneTable(tab)
	c.Buckets[at] = bucket
	return c
}

// P8.1: each index of a valid table is replaced by one that is negative, too great, that of another symbol, or none, or stands twice.
func TestRightRefusesIndices(t *testing.T) {
	syms := mixedSyms(30)
	for _, buckets := range []int{1, 3, 8} {
		good := tableOf(buckets, 4, 6, syms...)
		wantRight(t, "unchanged", api.OK, good, syms...)
		for at, bucket := range good.Buckets {
			for k, i := range bucket {
				wantRight(t, "missing", api.ErrTable, changed(good, at, slices.Delete(slices.Clone(bucket), k, k+1)...), syms...)
				wantRight(t, "twice", api.ErrTable, changed(good, at, slices.Insert(slices.Clone(bucket), k, i)...), syms...)
				for _, other := range []int{-1, -2, math.MinInt, i - 32, len(syms), len(syms) + i, 512, math.MaxInt, i + 1<<32} {
					wantRight(t, "an index of no symbol", api.ErrTable, changed(good, at, slices.Replace(slices.Clone(bucket), k, k+1, other)...), syms...)
				}
				for other := range syms {
					if other != i {
						wantRight(t, "another index", api.ErrTable, changed(good, at, slices.Replace(slices.Clone(bucket), k, k+1, other)...), syms...)
					}
				}
			}
		}
	}
}

// P8.1: an index of any kind in addition, at each place of each bucket.
func TestRightRefusesMore(t *testing.T) {
	syms := between(mixedSyms(12))
	good := tableOf(3, 4, 6, syms...)
	for at, bucket := range good.Buckets {
		for k := range len(bucket) + 1 {
			for more := -1; more <= len(syms); more++ {
				wantRight(t, "one more", api.ErrTable, changed(good, at, slices.Insert(slices.Clone(bucket), k, more)...), syms...)
			}
		}
	}
}

// P8.1: two indices of a bucket in the wrong order; two buckets in each other's place; a bucket too few or too many.
func TestRightRefusesOrder(t *testing.T) {
	syms := seenSyms(24)
	good := tableOf(3, 4, 6, syms...)
	for at, bucket := range good.Buckets {
		for k := range len(bucket) - 1 {
			swapped := slices.Clone(bucket)
			swapped[k], swapped[k+1] = swapped[k+1], swapped[k]
			wantRight(t, "out of order", api.ErrTable, changed(good, at, swapped...), syms...)
		}
		next := (at + 1) % 3
		wantRight(t, "in each other's place", api.ErrTable, changed(changed(good, at, good.Buckets[next]...), next, bucket...), syms...)
		fewer := cloneTable(good)
		fewer.Buckets = slices.Delete(fewer.Buckets, at, at+1)
		wantRight(t, "a bucket too few", api.ErrTable, fewer, syms...)
		more := cloneTable(good)
		more.Buckets = slices.Insert(more.Buckets, at, []int{})
		wantRight(t, "a bucket too many", api.ErrTable, more, syms...)
	}
}

// P8.1: equal names, and different names of one hash, stand in one bucket each for itself.
func TestRightOfEqualHashes(t *testing.T) {
	if hashOf("ab") != hashOf("bA") {
		t.Fatal("these names have two hashes")
	}
	syms := []api.Symbol{def("ab", "V1", true), def("bA", "", false), def("ab", "V2", false), def("ab", "V2", false)}
	good := tableOf(2, 1, 6, syms...)
	at := hashOf("ab") % 2
	wantRight(t, "all four", api.OK, good, syms...)
	for _, bucket := range [][]int{{0}, {0, 1, 2}, {1, 2, 3}, {0, 1, 3}, {0, 2, 3}, {0, 1, 2, 2}, {0, 0, 2, 3}, {0, 1, 3, 2}, {3, 2, 1, 0}, {0, 1, 2, 3, 3}} {
		wantRight(t, "others than all four", api.ErrTable, changed(good, at, bucket...), syms...)
	}
}

// someBuckets are all buckets of at most so many indices from -1 to most.
func someBuckets(size, most int) [][]int {
	all := [][]int{{}}
	for from := 0; len(all[from]) < size; from++ {
		for i := -1; i <= most; i++ {
			all = append(all, append(slices.Clone(all[from]), i))
		}
	}
	return all
}

// P8.1: all small tables of one and of two buckets, by the document's conditions.
func TestRightByDefinition(t *testing.T) {
	seen := map[api.Errno]int{}
	for _, syms := range [][]api.Symbol{
		{def("a", "", false), hidden("a", ""), def("b", "", false), ref("b", "")},
		{protected("a", "V1"), def("a", "V2", true), hidden("c", "")},
		{hidden("a", ""), ref("b", "V")},
	} {
		filter := filterOf(1, 6, syms...)
		for _, one := range someBuckets(3, len(syms)) {
			for _, tab := range []api.Table{{Buckets: [][]int{one}, Filter: filter}, {Buckets: [][]int{one}, Filter: filterOf(1, 6)}} {
				wantByDefinition(t, seen, tab, syms...)
			}
			for _, two := range someBuckets(3, len(syms)) {
				wantByDefinition(t, seen, api.Table{Buckets: [][]int{one, two}, Filter: filter}, syms...)
			}
		}
	}
	// The filter without bits is right where no name is seen, and there is one way to fill one bucket, and one to fill two.
	if want := 3 + 3 + 1; seen[api.OK] != want || seen[api.ErrTable] == 0 {
		t.Errorf("tables by their answers: %v; want %d of 0", seen, want)
	}
}

func wantByDefinition(t *testing.T, seen map[api.Errno]int, tab api.Table, syms ...api.Symbol) {
	t.Helper()
	want := api.ErrTable
	if isValid(tab, syms...) {
		want = api.OK
	}
	seen[want]++
	wantRight(t, "by definition", want, tab, syms...)
}
