package space_test

import (
	"testing"

	"clevis/api"
	"clevis/space"
)

// changes are such as one can make to the regions of the spaces that TestCopy makes.
func changes() []func(s *space.Space) api.Errno {
	return []func(s *space.Space) api.Errno{
		func(s *space.Space) api.Errno { return s.Write(8192, 99) },
		func(s *space.Space) api.Errno { return s.Poke(first+127, 0) },
		func(s *space.Space) api.Errno { return s.SetWord(8200, -7) },
		func(s *space.Space) api.Errno { return s.PokeWord(limit-8, 7) },
		func(s *space.Space) api.Errno { return s.Poke(1<<20+130, 1) },
		func(s *space.Space) api.Errno { return s.Protect(first, 0) },
		func(s *space.Space) api.Errno { return s.Protect(8192, 3) },
		func(s *space.Space) api.Errno { return s.Unmap(8192) },
		func(s *space.Space) api.Errno { return s.Unmap(first) },
		func(s *space.Space) api.Errno { return s.Unmap(limit - page) },
		func(s *space.Space) api.Errno { return s.MapAt(first+128, 100, 5) },
		func(s *space.Space) api.Errno { return s.MapAt(limit-2*page, 1, 7) },
		func(s *space.Space) api.Errno { _, e := s.Map(great, 7); return e },
		func(s *space.Space) api.Errno { _, e := s.Map(1, 7); return e },
	}
}

// copied has regions of which all bytes were written, some, and none.
func copied(t *testing.T) *space.Space {
	t.Helper()
	s := filled(t, first, 128, 1, 8192, 64, 7, limit-page, 1, 4)
	wantMapAt(t, s, 1<<20, 256, 3, api.OK)
	wantOK(t, "Write", s.Write(1<<20+100, 5, 6, 7))
	wantMapAt(t, s, 1<<21, 256, 3, api.OK)
	return s
}

// P5.4: what is done to a copy, or to what it was made of, is not seen in the other one.
func TestCopy(t *testing.T) {
	before := shotOf(t, copied(t))
	for _, change := range changes() {
		s := copied(t)
		c := s.Copy()
		wantShot(t, "a copy", c, before)
		wantOK(t, "a change of the copy", change(c))
		wantShot(t, "after a change of the copy", s, before)

		s = copied(t)
		c = s.Copy()
		wantOK(t, "a change", change(s))
		wantShot(t, "the copy after a change", c, before)
	}
}

// P5.4: a space and its copies go their own ways, also where they add regions and bytes in turns.
func TestCopiesGoTheirWays(t *testing.T) {
	s := space.New()
	for i := range 20 {
		wantMap(t, s, 64, 7, first+i*page, api.OK)
		wantOK(t, "SetWord", s.SetWord(first+i*page, i))
		c, d := s.Copy(), s.Copy()
		want := shotOf(t, s)
		wantMap(t, c, 128, 1, first+(i+1)*page, api.OK)
		wantMap(t, d, 64, 2, first+(i+1)*page, api.OK)
		for _, other := range []*space.Space{c, d} {
			wantOK(t, "PokeWord", other.PokeWord(first+(i+1)*page, -i-1))
			wantOK(t, "SetWord", other.SetWord(first+i*page+8, -i-1))
			wantOK(t, "Protect", other.Protect(first, 0))
		}
		wantShot(t, "the space", s, want)
		wantOK(t, "Unmap", c.Unmap(first))
		wantOK(t, "PokeWord", d.PokeWord(first, 1000))
		n, e := s.Word(first)
		wantWord(t, "Word", n, e, 0, api.OK)
	}
}

// P5.4: a copy of a space without regions, and a copy of a copy.
func TestCopyOfCopy(t *testing.T) {
	s := space.New()
	c := s.Copy()
	wantRegions(t, "a copy of nothing", c)
	wantMap(t, c, 1, 7, first, api.OK)
	wantRegions(t, "what it was made of", s)
	s = copied(t)
	want := shotOf(t, s)
	c = s.Copy().Copy()
	wantOK(t, "Unmap", s.Unmap(first))
	wantShot(t, "a copy of a copy", c, want)
}
