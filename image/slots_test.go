package image_test

import (
	"math"
	"slices"
	"strconv"
	"testing"

	"clevis/api"
)

// slotted has code at 0 and 256 and words from 64 to 192, a relocation at 96, a Copy from 120 to 123, and one slot.
func slotted(slots ...api.Slot) api.Image {
	return tabled(api.Image{
		Flags: api.Program,
		Segs:  []api.Seg{{Size: 40, Perm: 4}, {At: 64, Size: 128, Perm: 2}, {At: 192, Size: 8, Perm: 3}, {At: 256, Size: 64, Perm: 7}},
		Syms: []api.Symbol{
			{Name: "f", Kind: api.Func}, {Name: "g", Kind: api.Func, Defined: true}, {Name: "v", Kind: api.Var, Defined: true, Value: 120, Size: 3},
			{Name: "t", Kind: api.TlsVar}, {Name: "w", Kind: api.Var},
		},
		Relocs: []api.Reloc{{At: 96, Kind: api.Base, Sym: -1}, {At: 120, Kind: api.Copy, Sym: 2}},
		Slots:  slots,
	})
}

func wantSlots(t *testing.T, what string, isRight bool, slots ...api.Slot) {
	t.Helper()
	wantImage(t, what, slotted(slots...), worse(isRight, api.ErrImageSlots))
}

// P9.1: the word of a slot is in one segment of whatever permission, and overlaps no word of a relocation.
func TestWordOfSlots(t *testing.T) {
	for at, isRight := range map[int]bool{
		0: true, 1: true, 32: true, 33: false, 40: false, 56: false, 63: false, 64: true, 72: true, 88: true, 89: false, 92: false, 95: false, 96: false, 97: false,
		103: false, 104: true, 112: true, 113: false, 119: false, 120: false, 122: false, 123: true, 124: true, 184: true, 185: false, 191: false, 192: true, 193: false,
		200: false, 256: true, 312: true, 313: false, 320: false, 65536: false, 1 << 32: false, -1: false, -8: false, math.MinInt: false, math.MaxInt: false, math.MaxInt - 7: false,
	} {
		wantSlots(t, "a slot at "+strconv.Itoa(at), isRight, api.Slot{At: at})
	}
}

// P9.1: the words of slots are in increasing order, and may touch, but not overlap by one byte. A slot may be between relocations, and behind them.
func TestOrderOfSlots(t *testing.T) {
	for _, one := range []struct {
		isRight bool
		ats     []int
	}{
		{true, []int{64, 72, 80}}, {true, []int{64, 73, 104}}, {true, []int{0, 104, 192, 256}}, {false, []int{64, 64}}, {false, []int{64, 71}}, {false, []int{64, 65}},
		{false, []int{72, 64}}, {false, []int{65, 64}}, {false, []int{64, 72, 79}}, {false, []int{64, 72, 64}}, {false, []int{64, 72, 72}}, {false, []int{128, 64, 136}},
		{false, []int{64, 96}}, {false, []int{64, 89}}, {false, []int{104, 122}}, {true, []int{88, 104, 112, 123, 131}},
	} {
		var slots []api.Slot
		for _, at := range one.ats {
			slots = append(slots, api.Slot{At: at})
		}
		wantSlots(t, "slots", one.isRight, slots...)
	}
}

// P9.1: Sym is the index of a function, defined or not.
func TestSymOfSlots(t *testing.T) {
	for sym, isRight := range map[int]bool{
		0: true, 1: true, 2: false, 3: false, 4: false, 5: false, 6: false, -1: false, -2: false, 512: false, 1 << 32: false, math.MinInt: false, math.MaxInt: false,
	} {
		wantSlots(t, "a slot of "+strconv.Itoa(sym), isRight, api.Slot{At: 64, Sym: sym})
		wantSlots(t, "a last slot of "+strconv.Itoa(sym), isRight, api.Slot{At: 64}, api.Slot{At: 72, Sym: sym})
	}
	im := smallest()
	im.Segs[0].Size = 64
	im.Slots = []api.Slot{{}}
	wantImage(t, "no symbols", im, api.ErrImageSlots)
}

// isCode are addresses of which eight bytes may be executed in the image that slotted returns, and others.
func isCode() map[int]bool {
	return map[int]bool{
		0: true, 1: true, 8: true, 31: true, 32: true, 33: false, 39: false, 40: false, 64: false, 128: false, 192: false, 248: false, 255: false, 256: true, 312: true,
		313: false, 319: false, 320: false, 65536: false, 1 << 32: false, -1: false, -8: false, math.MinInt: false, math.MaxInt: false, math.MaxInt - 7: false,
	}
}

// P9.1: the eight bytes at Stub may be executed. Stubs may be the same.
func TestStubOfSlots(t *testing.T) {
	for stub, isRight := range isCode() {
		wantSlots(t, "a stub at "+strconv.Itoa(stub), isRight, api.Slot{At: 64, Stub: stub})
		wantSlots(t, "a last stub at "+strconv.Itoa(stub), isRight, api.Slot{At: 64, Stub: 8}, api.Slot{At: 72, Stub: stub})
		wantSlots(t, "a stub twice at "+strconv.Itoa(stub), isRight, api.Slot{At: 64, Stub: stub}, api.Slot{At: 72, Stub: stub})
	}
}

// P9.1: at most 128 slots.
func TestCountOfSlots(t *testing.T) {
	for _, n := range []int{0, 1, 127, 128, 129, 130, 255, 256, 1024} {
		im := slotted()
		im.Segs = append(im.Segs, api.Seg{At: 32768, Size: 32768})
		for i := range n {
			im.Slots = append(im.Slots, api.Slot{At: 32768 + 8*i, Sym: i % 2, Stub: i % 32})
		}
		wantImage(t, strconv.Itoa(n)+" slots", im, worse(n <= 128, api.ErrImageSlots))
	}
}

// P9.1: each of at most 8 Init, and of at most 8 Fini, is the address of eight bytes that may be executed, in any order.
func TestRuns(t *testing.T) {
	sets := map[string]func(*api.Image, ...int){
		"Init": func(im *api.Image, runs ...int) { im.Init = runs },
		"Fini": func(im *api.Image, runs ...int) { im.Fini = runs },
	}
	for what, set := range sets {
		want := func(isRight bool, runs ...int) {
			t.Helper()
			im := slotted()
			set(&im, runs...)
			wantImage(t, what, im, worse(isRight, api.ErrImageRuns))
		}
		for at, isRight := range isCode() {
			want(isRight, at)
			want(isRight, 32, 0, at)
			want(isRight, at, 0)
		}
		for _, n := range []int{0, 1, 7, 8, 9, 10, 255, 256, 300} {
			want(n <= 8, slices.Repeat([]int{8}, n)...)
		}
	}
	im := slotted()
	im.Init, im.Fini = slices.Repeat([]int{0}, 8), slices.Repeat([]int{256}, 8)
	wantImage(t, "as many as may be", im, api.OK)
}
