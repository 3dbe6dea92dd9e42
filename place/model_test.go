package place_test

import (
	"math/big"
	"math/rand/v2"
	"slices"
	"testing"

	"clevis/api"
	"clevis/place"
	"clevis/space"
)

// model is what is in a space. It is a value: each call returns another one.
type model shot

// isFree asks each region whether it has an address in common with the range.
func (m model) isFree(at, size int) bool {
	return !slices.ContainsFunc(m, func(p piece) bool { return p.At < at+size && at < p.At+p.Size })
}

// gap tries one address after the other.
func (m model) gap(extent *big.Int) (int, api.Errno) {
	if extent.Sign() <= 0 || extent.Cmp(big.NewInt(great)) > 0 {
		return 0, api.ErrArg
	}
	size := roundedUp(int(extent.Int64()))
	at := first
	for !m.isFree(at, size) {
		at += page
	}
	return at, api.OK
}

// with returns the model with one more segment.
func (m model) with(base int, s api.Seg) (model, api.Errno) {
	at := base + s.At
	isWrong := s.Size < 1 || s.Size > great || s.Perm < 0 || s.Perm > 7 || at < first || at%page != 0
	switch {
	case isWrong:
		return m, api.ErrArg
	case !m.isFree(at, roundedUp(s.Size)):
		return m, api.ErrSpaceUsed
	case len(s.Bytes) > great:
		return m, api.ErrArg
	case len(s.Bytes) > roundedUp(s.Size):
		return m, api.ErrSpaceFree
	}
	return model(behind(shot(m), base, s)), api.OK
}

func (m model) place(im api.Image) (model, int, api.Errno) {
	base, e := m.gap(modelExtent(im))
	if e != api.OK {
		return m, 0, e
	}
	next := m
	for _, s := range im.Segs {
		if next, e = next.with(base, s); e != api.OK {
			return m, 0, e
		}
	}
	return next, base, api.OK
}

func (m model) remove(base int, im api.Image) (model, api.Errno) {
	missing := api.OK
	for _, s := range im.Segs {
		rest := slices.DeleteFunc(slices.Clone(m), func(p piece) bool { return p.At == base+s.At })
		if len(rest) == len(m) {
			missing = api.ErrSpaceFree
		}
		m = rest
	}
	return m, missing
}

// both are a space and its model.
type both struct {
	m     *space.Space
	model model
}

func bothOf(t *testing.T, threes ...int) *both {
	t.Helper()
	m := spaceOf(t, threes...)
	return &both{m, model(shotOf(t, m))}
}

// place asks for what the model does, and returns the base if there is one.
func (b *both) place(t *testing.T, im api.Image) (int, bool) {
	t.Helper()
	next, want, wantError := b.model.place(im)
	if base, e := place.Map(b.m, im); base != want || e != wantError {
		t.Fatalf("Map of %s is %d and %d, want %d and %d, in %v", textOf(im), base, e, want, wantError, regionsOf(shot(b.model)))
	}
	b.model = next
	wantShot(t, "Map of "+textOf(im), b.m, shot(next))
	return want, wantError == api.OK
}

func (b *both) remove(t *testing.T, base int, im api.Image) {
	t.Helper()
	next, want := b.model.remove(base, im)
	if e := place.Unmap(b.m, base, im); e != want {
		t.Fatalf("Unmap of %s at %d is %d, want %d, in %v", textOf(im), base, e, want, regionsOf(shot(b.model)))
	}
	b.model = next
	wantShot(t, "Unmap of "+textOf(im), b.m, shot(next))
}

// eachList calls do with all lists of at most so many of the segments.
func eachList(most int, segs []api.Seg, do func(list []api.Seg)) {
	list := make([]api.Seg, 0, most)
	var add func()
	add = func() {
		do(list)
		if len(list) == most {
			return
		}
		for _, s := range segs {
			list = append(list, s)
			add()
			list = list[:len(list)-1]
		}
	}
	add()
}

// P15.2 to P15.4: all lists of at most three segments, right and wrong, in spaces with gaps of several sizes.
func TestAllSmallImages(t *testing.T) {
	segs := []api.Seg{
		seg(0, 1), seg(0, 64, 1, 2), withPerm(7, 0, 65, 3), seg(64, 64, counted(0, 64)...), seg(64, 10, counted(0, 20)...), withPerm(2, 128, 1, 4), seg(192, 100),
		seg(64, 0), withPerm(8, 0, 1), seg(32, 1), seg(-64, 64, 5), seg(-128, 64), seg(128, 1, counted(0, 65)...), seg(128, -64), seg(0, great+1),
	}
	spaces := [][]int{nil, {first, 64, 7}, {4160, 64, 1}, {4224, 64, 1, 4352, 64, 2, 4608, 128, 3}}
	eachList(3, segs, func(list []api.Seg) {
		im := imageOf(list...)
		compareExtent(t, im)
		for _, threes := range spaces {
			b := bothOf(t, threes...)
			was := shot(b.model)
			if base, ok := b.place(t, im); ok {
				b.remove(t, base, im)
				wantShot(t, "Map and Unmap of "+textOf(im), b.m, was)
			}
			b.remove(t, first, im)
		}
	})
}

// P15.2 to P15.4: images one after the other, which are unmapped in any order, at their base or elsewhere.
func TestModel(t *testing.T) {
	d := draws{rand.New(rand.NewPCG(15, 1))}
	for range 60 {
		b := bothOf(t)
		var images []api.Image
		var bases []int
		for range 40 {
			switch {
			case len(b.model) > 30 || d.IntN(5) < 2 && len(images) > 0:
				i := d.IntN(len(images))
				b.remove(t, bases[i]+d.IntN(4)/3*page, images[i])
			default:
				im := imageOf(d.segs()...)
				compareExtent(t, im)
				if base, ok := b.place(t, im); ok {
					images, bases = append(images, im), append(bases, base)
				}
			}
		}
	}
}

// draws makes up segments by a rule, the same ones in every run.
type draws struct{ *rand.Rand }

// segs are mostly valid: each one is behind the one before it, with or without a gap.
func (d draws) segs() []api.Seg {
	var all []api.Seg
	at := d.IntN(3) / 2 * page
	for range 1 + d.IntN(4) {
		size := 1 + d.IntN(3*page)
		s := withPerm(api.Perm(d.IntN(8)), at, size, counted(d.IntN(250), d.IntN(size+1))...)
		if d.IntN(20) == 0 {
			s = d.spoilt(s)
		}
		all = append(all, s)
		at += roundedUp(size) + d.IntN(4)/2*page*d.IntN(3)
	}
	if d.IntN(10) == 0 {
		d.Shuffle(len(all), func(i, j int) { all[i], all[j] = all[j], all[i] })
	}
	return all
}

func (d draws) spoilt(s api.Seg) api.Seg {
	switch d.IntN(7) {
	case 0:
		s.Size = -d.IntN(200)
	case 1:
		s.Perm = 8
	case 2:
		s.At += d.IntN(page)
	case 3:
		s.At = -s.At
	case 4:
		s.At = 0
	case 5:
		s.Bytes = counted(7, roundedUp(s.Size)+1)
	default:
		s.Bytes = counted(7, roundedUp(s.Size))
	}
	return s
}

// segsOf makes segments of numbers, six of them for each.
func segsOf(numbers []byte) []api.Seg {
	var all []api.Seg
	for six := range slices.Chunk(numbers, 6) {
		if len(six) < 6 {
			break
		}
		at := int(int8(six[0])) * page
		if six[1] > 200 {
			at += int(six[1]) - 200
		}
		size := int(int16(uint16(six[2])<<8 | uint16(six[3])))
		all = append(all, withPerm(api.Perm(int8(six[4]))%10, at, size, counted(int(six[1]), int(six[5]))...))
	}
	return all
}

// P15.1 to P15.4: images of any kind, in a space with several gaps.
func FuzzImages(f *testing.F) {
	f.Add([]byte{0, 0, 0, 10, 5, 3, 2, 0, 0, 1, 3, 0})
	f.Add([]byte{0, 0, 0, 65, 5, 66, 1, 0, 0, 1, 3, 0})
	f.Add([]byte{4, 9, 0, 64, 7, 65, 254, 0, 0, 1, 3, 0, 0, 201, 255, 1, 3, 0})
	f.Fuzz(func(t *testing.T, numbers []byte) {
		im := imageOf(segsOf(numbers)...)
		compareExtent(t, im)
		b := bothOf(t, 4160, 64, 7, 4352, 1000, 0, 6144, 64, 2)
		was := shot(b.model)
		if base, ok := b.place(t, im); ok {
			if again, ok := b.place(t, im); ok {
				b.remove(t, again, im)
			}
			b.remove(t, base, im)
			wantShot(t, "Map and Unmap of "+textOf(im), b.m, was)
		}
		b.remove(t, first+page, im)
	})
}
