package sieve_test

import (
	"math"
	"slices"
	"testing"

	"clevis/api"
	"clevis/sieve"
)

func rightWords() []int { return []int{1, 2, 4, 8, 16, 32, 64} }

func wrongWords() []int {
	return []int{0, 3, 5, 6, 7, 12, 31, 33, 48, 63, 65, 96, 127, 128, 256, 1 << 20, 1 << 40, math.MaxInt,
		-1, -2, -3, -64, -1 << 40, math.MinInt + 1, math.MinInt}
}

func wrongShifts() []int {
	return []int{0, 32, 33, 63, 64, 1 << 32, 1<<32 + 1, math.MaxInt, -1, -31, -32, -1<<32 + 6, math.MinInt}
}

// edgeHashes returns hashes at the edges of bits, words and 32 bits, and some by a rule.
func edgeHashes() []uint32 {
	hs := []uint32{0, 1, 2, 31, 32, 62, 63, 64, 65, 127, 128, 1<<12 - 1, 1 << 12, 1<<31 - 1, 1 << 31, 1<<31 + 1, 1<<31 + 64,
		0xaaaaaaaa, 0x55555555, 1<<32 - 64, 1<<32 - 1}
	h := uint32(1)
	for range 100 {
		h = h*1664525 + 1013904223
		hs = append(hs, h)
	}
	return hs
}

// place is a bit of a filter: by the definition in divisions, which no wrong shift or mask can be right for.
type place struct{ word, bit int }

func placesOf(words, shift int, h uint32) [2]place {
	n := int64(h)
	word := int(n / 64 % int64(words))
	for range shift {
		n /= 2
	}
	return [2]place{{word, int(int64(h) % 64)}, {word, int(n % 64)}}
}

// filterOf returns a filter in which exactly the bits of the hashes are 1.
func filterOf(words, shift int, hashes ...uint32) api.Filter {
	f := api.Filter{Words: make([]uint64, words), Shift: shift}
	for _, h := range hashes {
		for _, p := range placesOf(words, shift, h) {
			f.Words[p.word] |= 1 << p.bit
		}
	}
	return f
}

// brokenFilters returns filters that are not valid, with each bit 1 so that nothing but their form is wrong.
func brokenFilters() []api.Filter {
	ones := func(words, shift int) api.Filter {
		f := api.Filter{Words: make([]uint64, words), Shift: shift}
		for i := range f.Words {
			f.Words[i] = math.MaxUint64
		}
		return f
	}
	fs := []api.Filter{{}, {Words: []uint64{}, Shift: 6}, {Shift: 6}}
	for _, words := range wrongWords() {
		if 0 < words && words <= 256 {
			fs = append(fs, ones(words, 6))
		}
	}
	for _, shift := range wrongShifts() {
		fs = append(fs, ones(1, shift), ones(64, shift))
	}
	return fs
}

func same(f, g api.Filter) bool {
	return f.Shift == g.Shift && slices.Equal(f.Words, g.Words)
}

func wantFilter(t *testing.T, what string, f api.Filter, e api.Errno, want api.Filter) {
	t.Helper()
	if e != api.OK || !same(f, want) {
		t.Errorf("%s: got %x, %d; want %x, 0", what, f, e, want)
	}
}

func wantNoFilter(t *testing.T, what string, f api.Filter, e api.Errno) {
	t.Helper()
	if e != api.ErrSieve || len(f.Words) != 0 || f.Shift != 0 {
		t.Errorf("%s: got %x, %d; want nothing, %d", what, f, e, api.ErrSieve)
	}
}

// P2.2: a filter is valid by its number of words and its shift, whatever its bits are.
func TestRight(t *testing.T) {
	for _, words := range rightWords() {
		for shift := 1; shift <= 31; shift++ {
			none := api.Filter{Words: make([]uint64, words), Shift: shift}
			some := filterOf(words, shift, edgeHashes()...)
			if sieve.Right(none) != api.OK || sieve.Right(some) != api.OK {
				t.Errorf("%d words, shift %d: %d, %d", words, shift, sieve.Right(none), sieve.Right(some))
			}
		}
	}
	for _, f := range brokenFilters() {
		if e := sieve.Right(f); e != api.ErrSieve {
			t.Errorf("%d words, shift %d: %d", len(f.Words), f.Shift, e)
		}
	}
}

// P2.2: the words of filters that were worked out by hand.
func TestMakeByHand(t *testing.T) {
	for _, c := range []struct {
		words, shift int
		hashes       []uint32
		want         []uint64
	}{
		{1, 6, nil, []uint64{0}},
		{2, 31, nil, []uint64{0, 0}},
		{1, 6, []uint32{0}, []uint64{1}},
		{1, 6, []uint32{1}, []uint64{3}},
		{1, 6, []uint32{64}, []uint64{3}},
		{1, 6, []uint32{65}, []uint64{2}},
		{2, 6, []uint32{64}, []uint64{0, 3}},
		{2, 6, []uint32{128}, []uint64{5, 0}},
		{1, 1, []uint32{63}, []uint64{1<<63 | 1<<31}},
		{1, 1, []uint32{1<<32 - 1}, []uint64{1 << 63}},
		{1, 31, []uint32{1<<31 - 1}, []uint64{1<<63 | 1}},
		{1, 31, []uint32{1 << 31}, []uint64{3}},
		{1, 31, []uint32{1<<31 + 1}, []uint64{2}},
		{1, 26, []uint32{1<<32 - 1}, []uint64{1 << 63}},
		{1, 25, []uint32{1 << 31}, []uint64{1}},
		{1, 26, []uint32{1 << 31}, []uint64{1 | 1<<32}},
		{4, 6, []uint32{0, 5, 64 + 5, 3*64 + 7, 4*64 + 63}, []uint64{1 | 1<<5 | 1<<63 | 1<<4, 1<<5 | 1<<1, 0, 1<<7 | 1<<3}},
	} {
		f, e := sieve.Make(c.words, c.shift, c.hashes...)
		wantFilter(t, "by hand", f, e, api.Filter{Words: c.want, Shift: c.shift})
	}
	last, e := sieve.Make(64, 31, 1<<32-1)
	want := api.Filter{Words: make([]uint64, 64), Shift: 31}
	want.Words[63] = 1<<63 | 2
	wantFilter(t, "the last word", last, e, want)
}

// P2.2: Make sets exactly the bits of the hashes, for each form, and returns a filter that is valid.
func TestMakeByDefinition(t *testing.T) {
	hs := edgeHashes()
	for _, words := range rightWords() {
		for shift := 1; shift <= 31; shift++ {
			f, e := sieve.Make(words, shift)
			wantFilter(t, "no hashes", f, e, filterOf(words, shift))
			for _, h := range hs {
				f, e := sieve.Make(words, shift, h)
				wantFilter(t, "one hash", f, e, filterOf(words, shift, h))
			}
			f, e = sieve.Make(words, shift, hs...)
			wantFilter(t, "all hashes", f, e, filterOf(words, shift, hs...))
			if sieve.Right(f) != api.OK {
				t.Errorf("%d words, shift %d: what Make returns is not valid", words, shift)
			}
		}
	}
}

// P2.2: Make refuses each number of words and each shift that no valid filter has.
func TestMakeRefuses(t *testing.T) {
	for _, words := range wrongWords() {
		for _, shift := range append(wrongShifts(), 1, 6, 31) {
			f, e := sieve.Make(words, shift, 0, 1)
			wantNoFilter(t, "words", f, e)
		}
	}
	for _, shift := range wrongShifts() {
		for _, words := range rightWords() {
			f, e := sieve.Make(words, shift, 0, 1)
			wantNoFilter(t, "shift", f, e)
			f, e = sieve.Make(words, shift)
			wantNoFilter(t, "shift, without hashes", f, e)
		}
	}
}

// P2.2: Add sets the bits of the hashes in addition to all that were 1.
func TestAdd(t *testing.T) {
	hs := edgeHashes()
	for _, words := range rightWords() {
		for shift := 1; shift <= 31; shift++ {
			old := filterOf(words, shift, hs[:9]...)
			f, e := sieve.Add(old)
			wantFilter(t, "nothing", f, e, old)
			f, e = sieve.Add(old, hs[:9]...)
			wantFilter(t, "what was there", f, e, old)
			f, e = sieve.Add(old, hs[9])
			wantFilter(t, "one hash", f, e, filterOf(words, shift, hs[:10]...))
			f, e = sieve.Add(old, hs[5:]...)
			wantFilter(t, "many hashes", f, e, filterOf(words, shift, hs...))
		}
	}
	full := api.Filter{Words: []uint64{math.MaxUint64, 1 << 40}, Shift: 3}
	f, e := sieve.Add(full, 64)
	wantFilter(t, "bits of no hash", f, e, api.Filter{Words: []uint64{math.MaxUint64, 1<<40 | 1 | 1<<8}, Shift: 3})
}

// P2.2: Add refuses each filter that is not valid.
func TestAddRefuses(t *testing.T) {
	for _, old := range brokenFilters() {
		f, e := sieve.Add(old)
		wantNoFilter(t, "nothing", f, e)
		f, e = sieve.Add(old, 0, 1<<32-1)
		wantNoFilter(t, "hashes", f, e)
	}
}

// P2.2 with W6: Add leaves f as it is, its spare words and the hashes too, and shares no words with it.
func TestAddLeavesArguments(t *testing.T) {
	room := []uint64{1, 2, 3, 4}
	old := api.Filter{Words: room[:2], Shift: 6}
	hs := []uint32{5, 70, 9}
	for _, more := range [][]uint32{nil, hs[:2]} {
		f, e := sieve.Add(old, more...)
		if e != api.OK {
			t.Fatal(e)
		}
		for i := range f.Words {
			f.Words[i] = 99
		}
		_ = append(f.Words, 98, 97)
	}
	if !slices.Equal(room, []uint64{1, 2, 3, 4}) || !slices.Equal(hs, []uint32{5, 70, 9}) || old.Shift != 6 {
		t.Errorf("arguments changed: %v, %v", room, hs)
	}
}

// P2.2 with W6: Make leaves the hashes as they are, and each of its filters has words of its own.
func TestMakeIsNew(t *testing.T) {
	hs := []uint32{5, 70, 9}
	one, _ := sieve.Make(2, 6, hs[:2]...)
	two, _ := sieve.Make(2, 6, hs[:2]...)
	one.Words[0], one.Words[1] = 0, 0
	if !same(two, filterOf(2, 6, 5, 70)) || !slices.Equal(hs, []uint32{5, 70, 9}) {
		t.Errorf("got %x, %v", two, hs)
	}
}

// P2.3: Lacks tells whether one of the two bits is 0, each of them alone, too.
func TestLacksByHand(t *testing.T) {
	zero, _ := sieve.Make(1, 6, 0)
	for _, c := range []struct {
		f    api.Filter
		h    uint32
		want bool
	}{
		{zero, 0, false},
		{zero, 1, true},
		{zero, 64, true},
		{zero, 1 << 12, false},
		{api.Filter{Words: []uint64{1}, Shift: 6}, 64, true},
		{api.Filter{Words: []uint64{2}, Shift: 6}, 64, true},
		{api.Filter{Words: []uint64{3}, Shift: 6}, 64, false},
		{api.Filter{Words: []uint64{2}, Shift: 6}, 65, false},
		{api.Filter{Words: []uint64{1}, Shift: 6}, 65, true},
		{api.Filter{Words: []uint64{3, 0}, Shift: 6}, 64, true},
		{api.Filter{Words: []uint64{0, 3}, Shift: 6}, 64, false},
		{api.Filter{Words: []uint64{1 << 63}, Shift: 1}, 1<<32 - 1, false},
		{api.Filter{Words: []uint64{1 << 63}, Shift: 31}, 1<<32 - 1, true},
		{api.Filter{Words: []uint64{1<<63 | 2}, Shift: 31}, 1<<32 - 1, false},
		{api.Filter{Words: []uint64{1}, Shift: 31}, 1 << 31, true},
		{api.Filter{Words: []uint64{2}, Shift: 31}, 1 << 31, true},
		{api.Filter{Words: []uint64{3}, Shift: 31}, 1 << 31, false},
	} {
		if got := sieve.Lacks(c.f, c.h); got != c.want {
			t.Errorf("%x lacks %d: %t", c.f, c.h, got)
		}
	}
}

// P2.3: for each form, a hash is lacked exactly if one of its bits is 0, and never once it was added.
func TestLacksByDefinition(t *testing.T) {
	hs := edgeHashes()
	for _, words := range rightWords() {
		for shift := 1; shift <= 31; shift++ {
			f := filterOf(words, shift, hs[:15]...)
			for i, h := range hs {
				want := false
				for _, p := range placesOf(words, shift, h) {
					want = want || f.Words[p.word]>>p.bit&1 == 0
				}
				if got := sieve.Lacks(f, h); got != want || got && i < 15 {
					t.Errorf("%d words, shift %d: lacks %d: %t", words, shift, h, got)
				}
				if more, _ := sieve.Add(f, h); sieve.Lacks(more, h) {
					t.Errorf("%d words, shift %d: lacks %d, which was added", words, shift, h)
				}
				if none := filterOf(words, shift); !sieve.Lacks(none, h) {
					t.Errorf("%d words, shift %d: %d is not lacked where nothing is", words, shift, h)
				}
			}
		}
	}
}

// P2.3: a filter that is not valid lacks nothing, even if all its bits are 0.
func TestLacksOfBroken(t *testing.T) {
	for _, f := range brokenFilters() {
		clear(f.Words)
		for _, h := range []uint32{0, 1, 64, 1 << 31, 1<<32 - 1} {
			if sieve.Lacks(f, h) {
				t.Errorf("%d words, shift %d: lacks %d", len(f.Words), f.Shift, h)
			}
		}
	}
}
