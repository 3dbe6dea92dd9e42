package place_test

import (
	"slices"
	"testing"

	"clevis/api"
	"clevis/builder"
	"clevis/code"
	"clevis/image"
	"clevis/place"
	"clevis/space"
)

// P15.2: the example of the chapter.
func TestExample(t *testing.T) {
	m := space.New()
	wantMap(t, m, example(t), 4096)
	wantRegions(t, "the example", m, 4096, 64, 1, 4224, 64, 1)
	if at, e := m.Gap(64); at != 4160 || e != api.OK {
		t.Errorf("Gap is %d and %d", at, e)
	}
}

// P15.2: one segment, with its size, permission and bytes, and with zeros behind them.
func TestMapOneSegment(t *testing.T) {
	for _, c := range []struct {
		size, bytes int
		regions     []int
	}{
		{1, 0, []int{4096, 64, 5}}, {1, 1, []int{4096, 64, 5}}, {10, 3, []int{4096, 64, 5}}, {63, 63, []int{4096, 64, 5}}, {64, 64, []int{4096, 64, 5}}, {64, 1, []int{4096, 64, 5}},
		{65, 0, []int{4096, 128, 5}}, {65, 64, []int{4096, 128, 5}}, {65, 65, []int{4096, 128, 5}}, {1000, 500, []int{4096, 1024, 5}}, {65536, 65536, []int{4096, 65536, 5}}, {65535, 1, []int{4096, 65536, 5}},
	} {
		m := space.New()
		wantMap(t, m, valid(t, withPerm(5, 0, c.size, counted(0, c.bytes)...)), 4096)
		wantRegions(t, "one segment", m, c.regions...)
	}
	m := space.New()
	wantMap(t, m, valid(t, seg(0, 100, 1, 0, 2, 0)), 4096)
	b, e := m.Read(4096, 128)
	if !slices.Equal(b, append([]byte{1, 0, 2, 0}, make([]byte, 124)...)) || e != api.OK {
		t.Errorf("Read is %v and %d", b, e)
	}
}

// P15.2: the base is where the extent begins, also where the first segment does not begin there.
func TestMapSegmentBehindTheBase(t *testing.T) {
	m := space.New()
	wantMap(t, m, valid(t, seg(128, 10, 7)), 4096)
	wantRegions(t, "one segment at 128", m, 4224, 64, 1)
	wantMap(t, m, valid(t, seg(64, 10, 8)), 4096)
	wantRegions(t, "one segment at 64", m, 4160, 64, 1, 4224, 64, 1)
	wantMap(t, m, valid(t, seg(64, 65, 9)), 4288)
	wantRegions(t, "one segment at 64, of two pages", m, 4160, 64, 1, 4224, 64, 1, 4352, 128, 1)
}

// P15.2: several segments, some of them without bytes, some with fewer than their Size, one behind the other or with gaps between them.
func TestMapSeveralSegments(t *testing.T) {
	m := space.New()
	wantMap(t, m, valid(t,
		withPerm(5, 0, 64, counted(1, 64)...),
		withPerm(3, 64, 100, counted(2, 50)...),
		withPerm(1, 256, 1),
		withPerm(3, 320, 129, counted(3, 129)...),
		withPerm(0, 640, 64, 9),
	), 4096)
	wantRegions(t, "five segments", m, 4096, 64, 5, 4160, 128, 3, 4352, 64, 1, 4416, 192, 3, 4736, 64, 0)

	for size := 1; size <= page; size += 9 {
		var segs []api.Seg
		for i := range api.MaxSegs {
			segs = append(segs, withPerm(api.Perm(i), 2*i*page, size, counted(i, size/2)...))
		}
		m = space.New()
		wantMap(t, m, valid(t, segs...), 4096)
		wantMap(t, m, valid(t, segs...), 4096+15*page)
	}
}

// P15.2: each permission becomes that of the region: what it permits is done, and what it does not is refused.
func TestMapPerms(t *testing.T) {
	bytes := counted(0, 8)
	for p := api.Perm(0); p < 8; p++ {
		m := space.New()
		wantMap(t, m, valid(t, withPerm(p, 0, 8, bytes...), withPerm(7-p, 64, 8, bytes...)), 4096)
		wantRegions(t, "two permissions", m, 4096, 64, int(p), 4160, 64, int(7-p))
		for at, has := range map[int]api.Perm{4096: p, 4160: 7 - p} {
			b, e := m.Read(at, 8)
			wantAllowed(t, "Read", has&api.Read != 0, slices.Equal(b, bytes), e)
			b, e = m.Fetch(at)
			wantAllowed(t, "Fetch", has&api.Exec != 0, slices.Equal(b, bytes), e)
			e = m.Write(at, 5)
			wantAllowed(t, "Write", has&api.Write != 0, true, e)
			b, e = m.Peek(at, 8)
			wantAllowed(t, "Peek", true, slices.Equal(b[1:], bytes[1:]), e)
		}
	}
}

func wantAllowed(t *testing.T, what string, isAllowed, isRight bool, e api.Errno) {
	t.Helper()
	if isAllowed && (e != api.OK || !isRight) || !isAllowed && e != api.ErrSpacePerm {
		t.Errorf("%s: allowed %t, right %t, and %d", what, isAllowed, isRight, e)
	}
}

// P15.2: the bytes of a segment are its own: nothing of them is behind its end, nor in the next one.
func TestMapBytesStayInTheirSegment(t *testing.T) {
	m := space.New()
	wantMap(t, m, valid(t, seg(0, 64, counted(0, 64)...), seg(64, 64), seg(128, 64, 1), seg(192, 64)), 4096)
	for _, c := range []struct {
		at   int
		want byte
	}{{4096, 1}, {4159, 64}, {4160, 0}, {4223, 0}, {4224, 1}, {4225, 0}, {4287, 0}, {4288, 0}} {
		if b, e := m.Peek(c.at, 1); !slices.Equal(b, []byte{c.want}) || e != api.OK {
			t.Errorf("the byte at %d is %v and %d, want %d", c.at, b, e, c.want)
		}
	}
}

// P15.2: all bytes are zeros where none are given, also where something else was mapped before.
func TestMapWhereBytesWere(t *testing.T) {
	m := spaceOf(t, first, 1024, 7)
	wantErr(t, "Unmap", m.Unmap(first), api.OK)
	wantMap(t, m, valid(t, seg(0, 100, 1, 2), seg(192, 64), seg(512, 10, 3)), first)
}

// P15.2: the gaps between the segments remain free: they are no part of a region, and others may be mapped there.
func TestMapGapsStayFree(t *testing.T) {
	m := space.New()
	im := valid(t, seg(0, 64, 1), seg(192, 1, 2), seg(448, 100, 3))
	wantMap(t, m, im, 4096)
	for _, at := range []int{4160, 4223, 4224, 4287, 4352, 4543} {
		_, e := m.Peek(at, 1)
		wantErr(t, "Peek in a gap", e, api.ErrSpaceFree)
	}
	_, e := m.Peek(4156, 8)
	wantErr(t, "Peek into a gap", e, api.ErrSpaceFree)
	wantErr(t, "MapAt", m.MapAt(4160, 128, 7), api.OK)
	wantErr(t, "MapAt", m.MapAt(4352, 192, 7), api.OK)
	wantMap(t, m, im, 4672)

	m = space.New()
	wantMap(t, m, im, 4096)
	wantMap(t, m, valid(t, seg(0, 128, 4)), 4160)
	wantMap(t, m, valid(t, seg(0, 1, 5), seg(128, 1, 6)), 4352)
	wantMap(t, m, valid(t, seg(0, 64, 7)), 4416)
	wantMap(t, m, valid(t, seg(0, 64, 8)), 4672)
}

// P15.2: the base is the smallest address at which the whole extent is free: ahead of the regions, between them, or behind them.
func TestMapAmongRegions(t *testing.T) {
	threes := []int{4224, 64, 1, 4416, 128, 6, 4736, 64, 0}
	for _, c := range []struct {
		segs []api.Seg
		base int
	}{
		{[]api.Seg{seg(0, 1, 1)}, 4096},
		{[]api.Seg{seg(0, 128, 1)}, 4096},
		{[]api.Seg{seg(64, 64, 1)}, 4096},
		{[]api.Seg{seg(0, 129, 1)}, 4544},
		{[]api.Seg{seg(0, 192, 1)}, 4544},
		{[]api.Seg{seg(0, 64, 1), seg(64, 65, 2)}, 4544},
		{[]api.Seg{seg(0, 1, 1), seg(128, 1, 2)}, 4544},
		{[]api.Seg{seg(128, 1, 1)}, 4544},
		{[]api.Seg{seg(0, 193, 1)}, 4800},
		{[]api.Seg{seg(0, 64, 1), seg(192, 64, 2)}, 4800},
		{[]api.Seg{seg(192, 1, 1)}, 4800},
		{[]api.Seg{seg(0, 1), seg(2048, 1)}, 4800},
	} {
		im := valid(t, c.segs...)
		m := spaceOf(t, threes...)
		at, e := m.Gap(place.Extent(im))
		if at != c.base || e != api.OK {
			t.Errorf("Gap for %s is %d and %d, want %d", textOf(im), at, e, c.base)
		}
		wantMap(t, m, im, c.base)
	}
}

// P15.2: a region that lies just in the gap between two segments is in the way nevertheless.
func TestMapNotAroundARegion(t *testing.T) {
	m := spaceOf(t, 4160, 64, 7)
	wantMap(t, m, valid(t, seg(0, 64, 1), seg(128, 64, 2)), 4224)
	wantMap(t, m, valid(t, seg(0, 64, 3)), 4096)
}

// P15.2: one image after the other, the same one and others, each of them at a base of its own.
func TestMapSeveralImages(t *testing.T) {
	m := space.New()
	im := example(t)
	wantMap(t, m, im, 4096)
	wantMap(t, m, im, 4288)
	wantMap(t, m, valid(t, seg(0, 64, 5)), 4160)
	wantMap(t, m, im, 4480)
	wantMap(t, m, valid(t, seg(0, 65, 5)), 4672)
	wantMap(t, m, valid(t, seg(0, 1, 6)), 4352)
}

// P15.2, W3: where there is no room for the extent, the error is that of Gap, and nothing is mapped.
func TestMapWithoutRoom(t *testing.T) {
	images := []api.Image{
		valid(t, seg(0, 193, 1)), valid(t, seg(192, 1, 1)), valid(t, seg(0, 1), seg(192, 1)), valid(t, seg(0, 100), seg(128, 100)), valid(t, seg(0, 65536)),
	}
	for _, m := range []*space.Space{fullBut(t), fullBut(t, 5120, 192), fullBut(t, first, 64, 4224, 128, 8192, 192), fullBut(t, first, 192, limit-192, 192)} {
		for _, im := range images {
			wantMapError(t, m, im, api.ErrFull)
		}
	}
	wantMapError(t, fullBut(t), valid(t, seg(0, 1)), api.ErrFull)
	wantMapError(t, fullBut(t, first, 64), valid(t, seg(64, 1)), api.ErrFull)
	wantMapError(t, fullBut(t, first, 64, first+128, 64), example(t), api.ErrFull)
}

// P15.2: the last room that there is: at the first address, between, and up to the last address.
func TestMapIntoTheLastRoom(t *testing.T) {
	for _, base := range []int{first, first + 64, 8192, 1 << 31, limit - 256, limit - 192} {
		m := fullBut(t, base, 192)
		was := m.Regions()
		im := valid(t, withPerm(5, 0, 100, 1, 2), withPerm(2, 128, 64, counted(0, 64)...))
		if got, e := place.Map(m, im); got != base || e != api.OK {
			t.Fatalf("Map is %d and %d, want %d", got, e, base)
		}
		want := append(was, api.Region{At: base, Size: 128, Perm: 5}, api.Region{At: base + 128, Size: 64, Perm: 2})
		slices.SortFunc(want, func(a, b api.Region) int { return a.At - b.At })
		if got := m.Regions(); !slices.Equal(got, want) {
			t.Errorf("the regions are not as promised at %d", base)
		}
		if b, e := m.Peek(base+128, 64); !slices.Equal(b, counted(0, 64)) || e != api.OK {
			t.Errorf("the bytes at %d are %v and %d", base+128, b, e)
		}
		wantMapError(t, m, valid(t, seg(0, 1)), api.ErrFull)
	}
}

// P15.2: all that counts of an image are its segments: what they are of, a program or a library, makes no difference.
func TestMapOfSegmentsAlone(t *testing.T) {
	im := example(t)
	im.Name, im.Flags, im.Tls, im.TlsSize, im.RunPath = "b", 15, []byte{1, 2}, 4096, []string{"/lib"}
	m := space.New()
	wantMap(t, m, im, 4096)
	wantRegions(t, "with other parts", m, 4096, 64, 1, 4224, 64, 1)
}

// P15.2: an image that was built, and that was decoded from the bytes of a file, has its code and its words where it is mapped.
func TestMapOfBuiltImage(t *testing.T) {
	is, _, e := code.Parse("movi r1 5\nret\n")
	wantErr(t, "Parse", e, api.OK)
	built, e := builder.Build(api.Spec{
		Funcs: []api.FuncSpec{{Sym: api.Symbol{Name: "f", Kind: api.Func}, Lines: []api.Line{{Inst: is[0]}, {Kind: api.AddrName, A: 2, Name: "v"}, {Inst: is[1]}}}},
		Vars:  []api.VarSpec{{Sym: api.Symbol{Name: "v", Kind: api.Var}, Words: []int{-2, 7}}},
	})
	wantErr(t, "Build", e, api.OK)
	b, e := image.Encode(built)
	wantErr(t, "Encode", e, api.OK)
	im, e := image.Decode(b)
	wantErr(t, "Decode", e, api.OK)
	m := spaceOf(t, first, 64, 7)
	wantMap(t, m, im, 4160)
	wantRegions(t, "a built image", m, first, 64, 7, 4160, 64, 5, 4224, 64, 3)
	inst, e := m.Fetch(4160)
	if got, _ := code.Decode(inst); e != api.OK || !slices.Equal(got, is[:1]) {
		t.Errorf("the first instruction is %v and %d", got, e)
	}
	if n, e := m.Word(4224 + 8); n != -2 || e != api.OK {
		t.Errorf("the first word of v is %d and %d", n, e)
	}
}
