package sieve_test

import (
	"math"
	"slices"
	"testing"

	"clevis/api"
	"clevis/sieve"
)

// P2.4: the bits that are 1 in one of the filters, of any number of them.
func TestUnionByHand(t *testing.T) {
	of := func(words ...uint64) api.Filter { return api.Filter{Words: words, Shift: 6} }
	for _, c := range []struct {
		fs   []api.Filter
		want api.Filter
	}{
		{[]api.Filter{of(5)}, of(5)},
		{[]api.Filter{of(0), of(0)}, of(0)},
		{[]api.Filter{of(1), of(1)}, of(1)},
		{[]api.Filter{of(1, 8), of(2, 8)}, of(3, 8)},
		{[]api.Filter{of(0, 0), of(0, 1<<63), of(7, 0)}, of(7, 1<<63)},
		{[]api.Filter{of(math.MaxUint64), of(0)}, of(math.MaxUint64)},
		{[]api.Filter{of(0), of(math.MaxUint64)}, of(math.MaxUint64)},
	} {
		f, e := sieve.Union(c.fs...)
		wantFilter(t, "by hand", f, e, c.want)
	}
}

// P2.4: for each form, the union has the bits of all hashes, and lacks only what all of the filters lack.
func TestUnionByDefinition(t *testing.T) {
	hs := edgeHashes()
	for _, words := range rightWords() {
		for shift := 1; shift <= 31; shift++ {
			fs := []api.Filter{filterOf(words, shift, hs[:7]...), filterOf(words, shift), filterOf(words, shift, hs[5:20]...)}
			f, e := sieve.Union(fs...)
			wantFilter(t, "three filters", f, e, filterOf(words, shift, hs[:20]...))
			for _, h := range hs {
				if sieve.Lacks(f, h) && !(sieve.Lacks(fs[0], h) && sieve.Lacks(fs[1], h) && sieve.Lacks(fs[2], h)) {
					t.Errorf("%d words, shift %d: the union lacks %d, which one of them has", words, shift, h)
				}
			}
		}
	}
}

// P2.4: no filters, and a first one that is not valid, alone or with others of its form or another.
func TestUnionRefuses(t *testing.T) {
	f, e := sieve.Union()
	wantNoFilter(t, "no filters", f, e)
	good := filterOf(2, 6, 1)
	for _, broken := range brokenFilters() {
		for _, fs := range [][]api.Filter{{broken}, {broken, broken}, {broken, good}, {good, broken}, {good, good, broken}} {
			f, e := sieve.Union(fs...)
			wantNoFilter(t, "a filter that is not valid", f, e)
		}
	}
}

// P2.4: filters that are valid, but differ in the number of words or in Shift, wherever the other one stands.
func TestUnionRefusesOtherForms(t *testing.T) {
	for _, c := range []struct{ one, other api.Filter }{
		{filterOf(2, 6, 1), filterOf(4, 6, 1)},
		{filterOf(2, 6, 1), filterOf(1, 6, 1)},
		{filterOf(64, 6), filterOf(1, 6)},
		{filterOf(2, 6, 1), filterOf(2, 7, 1)},
		{filterOf(2, 6, 1), filterOf(2, 5, 1)},
		{filterOf(1, 1), filterOf(1, 31)},
	} {
		for _, fs := range [][]api.Filter{{c.one, c.other}, {c.other, c.one}, {c.one, c.one, c.other}, {c.one, c.other, c.one}} {
			f, e := sieve.Union(fs...)
			wantNoFilter(t, "another form", f, e)
		}
	}
}

// P2.4 with W6: Union leaves the filters as they are, and shares no words with them.
func TestUnionLeavesArguments(t *testing.T) {
	one, two := []uint64{1, 2, 3}, []uint64{4, 8, 5}
	fs := []api.Filter{{Words: one[:2], Shift: 6}, {Words: two[:2], Shift: 6}}
	for n := 1; n <= 2; n++ {
		f, e := sieve.Union(fs[:n]...)
		if e != api.OK {
			t.Fatal(e)
		}
		clear(f.Words)
		_ = append(f.Words, 98)
	}
	if !slices.Equal(one, []uint64{1, 2, 3}) || !slices.Equal(two, []uint64{4, 8, 5}) {
		t.Errorf("arguments changed: %v, %v", one, two)
	}
}
