package space_test

import (
	"testing"

	"clevis/api"
	"clevis/space"
)

// cell is one address of the model.
type cell struct {
	start, size int // of its region
	b           byte
}

// model is a space built otherwise: it keeps each address for itself, and finds gaps by trying one address after the other.
type model struct {
	cells map[int]cell
	perms map[int]api.Perm // by the start of a region
}

func newModel() *model {
	return &model{cells: map[int]cell{}, perms: map[int]api.Perm{}}
}

func (m *model) copy() *model {
	c := newModel()
	for at, one := range m.cells {
		c.cells[at] = one
	}
	for at, p := range m.perms {
		c.perms[at] = p
	}
	return c
}

func modelSize(n int) int {
	for n%page != 0 {
		n++
	}
	return n
}

func (m *model) isFree(at, size int) bool {
	for i := range size {
		if m.cells[at+i].size != 0 {
			return false
		}
	}
	return true
}

func (m *model) gap(size int) (int, api.Errno) {
	if size < 1 || size > great {
		return 0, api.ErrArg
	}
	at := first
	for !m.isFree(at, modelSize(size)) {
		at += page
	}
	return at, api.OK
}

func (m *model) mapAt(at, size int, p api.Perm) api.Errno {
	switch {
	case size < 1 || size > great || p < 0 || p > 7 || at < first || at%page != 0 || at > limit || at+modelSize(size) > limit:
		return api.ErrArg
	case !m.isFree(at, modelSize(size)):
		return api.ErrSpaceUsed
	}
	for i := range modelSize(size) {
		m.cells[at+i] = cell{start: at, size: modelSize(size)}
	}
	m.perms[at] = p
	return api.OK
}

func (m *model) mapAny(size int, p api.Perm) (int, api.Errno) {
	if p < 0 || p > 7 {
		return 0, api.ErrArg
	}
	at, e := m.gap(size)
	if e != api.OK {
		return 0, e
	}
	return at, m.mapAt(at, size, p)
}

func (m *model) unmap(at int) api.Errno {
	one := m.cells[at]
	if one.size == 0 || one.start != at {
		return api.ErrSpaceFree
	}
	for i := range one.size {
		delete(m.cells, at+i)
	}
	delete(m.perms, at)
	return api.OK
}

func (m *model) protect(at int, p api.Perm) api.Errno {
	if p < 0 || p > 7 {
		return api.ErrArg
	}
	if _, ok := m.perms[at]; !ok {
		return api.ErrSpaceFree
	}
	m.perms[at] = p
	return api.OK
}

func (m *model) check(at, n int, need api.Perm) api.Errno {
	if n < 1 || n > great {
		return api.ErrArg
	}
	one := m.cells[at]
	for i := range n {
		if m.cells[at+i].size == 0 || m.cells[at+i].start != one.start {
			return api.ErrSpaceFree
		}
	}
	if m.perms[one.start]&need != need {
		return api.ErrSpacePerm
	}
	return api.OK
}

func (m *model) read(at, n int, need api.Perm) ([]byte, api.Errno) {
	if e := m.check(at, n, need); e != api.OK {
		return nil, e
	}
	var b []byte
	for i := range n {
		b = append(b, m.cells[at+i].b)
	}
	return b, api.OK
}

func (m *model) write(at int, b []byte, need api.Perm) api.Errno {
	if e := m.check(at, len(b), need); e != api.OK {
		return e
	}
	for i, x := range b {
		one := m.cells[at+i]
		one.b = x
		m.cells[at+i] = one
	}
	return api.OK
}

func modelWord(b []byte) int {
	n := 0
	for i := len(b) - 1; i >= 0; i-- {
		n = n*256 + int(b[i])
	}
	return n
}

// shot goes through the addresses in their order.
func (m *model) shot() shot {
	var all shot
	for at := first; at < first+60*page; at += page {
		if p, ok := m.perms[at]; ok {
			b, _ := m.read(at, m.cells[at].size, 0)
			all.regions = append(all.regions, api.Region{At: at, Size: len(b), Perm: p})
			all.bytes = append(all.bytes, b)
		}
	}
	return all
}

// draws tells numbers by a rule, the same ones in every run.
type draws uint64

func (d *draws) below(n int) int {
	*d = *d*6364136223846793005 + 1442695040888963407
	return int(uint64(*d) >> 33 % uint64(n))
}

func (d *draws) size() int { return d.below(5*page) - 3 }

func (d *draws) perm() api.Perm { return api.Perm(d.below(10) - 1) }

func (d *draws) start() int {
	if d.below(8) == 0 {
		return d.address()
	}
	return first + (d.below(22)-1)*page
}

func (d *draws) address() int { return first - 20 + d.below(25*page) }

func (d *draws) bytes(n int) []byte {
	var b []byte
	for range n {
		b = append(b, byte(d.below(256)))
	}
	return b
}

// mapping makes one call that changes regions, of both.
func (d *draws) mapping(t *testing.T, s *space.Space, m *model) {
	t.Helper()
	at, size, p := d.start(), d.size(), d.perm()
	switch d.below(6) {
	case 0, 1:
		want, e := m.mapAny(size, p)
		if m.cells[first+60*page].size != 0 {
			t.Fatalf("the model was to stay small")
		}
		wantMap(t, s, size, p, want, e)
	case 2:
		wantMapAt(t, s, at, size, p, m.mapAt(at, size, p))
	case 3, 4:
		wantErr(t, "Unmap", s.Unmap(at), m.unmap(at))
	case 5:
		wantErr(t, "Protect", s.Protect(at, p), m.protect(at, p))
	}
}

// access makes one call that reads or writes, of both.
func (d *draws) access(t *testing.T, s *space.Space, m *model) {
	t.Helper()
	at, n := d.address(), d.below(80)
	given, word := d.bytes(n), d.bytes(8)
	switch d.below(9) {
	case 0:
		b, e := s.Read(at, n)
		want, wantError := m.read(at, n, 1)
		wantBytes(t, "Read", b, e, want, wantError)
	case 1:
		b, e := s.Peek(at, n)
		want, wantError := m.read(at, n, 0)
		wantBytes(t, "Peek", b, e, want, wantError)
	case 2:
		b, e := s.Fetch(at)
		want, wantError := m.read(at, 8, 4)
		wantBytes(t, "Fetch", b, e, want, wantError)
	case 3:
		n, e := s.Word(at)
		want, wantError := m.read(at, 8, 1)
		wantWord(t, "Word", n, e, modelWord(want), wantError)
	case 4:
		n, e := s.PeekWord(at)
		want, wantError := m.read(at, 8, 0)
		wantWord(t, "PeekWord", n, e, modelWord(want), wantError)
	case 5:
		wantErr(t, "Write", s.Write(at, given...), m.write(at, given, 2))
	case 6:
		wantErr(t, "Poke", s.Poke(at, given...), m.write(at, given, 0))
	case 7:
		wantErr(t, "SetWord", s.SetWord(at, modelWord(word)), m.write(at, word, 2))
	case 8:
		wantErr(t, "PokeWord", s.PokeWord(at, modelWord(word)), m.write(at, word, 0))
	}
}

// P5.1 to P5.5: many calls, by a rule, each of which does what the model does, in a space and in its copies.
func TestModel(t *testing.T) {
	d := draws(1)
	for range 6 {
		s, m := space.New(), newModel()
		for range 250 {
			if d.below(3) == 0 && len(m.cells) < 20*page {
				d.mapping(t, s, m)
			} else if d.below(40) == 0 {
				wantErr(t, "Unmap", s.Unmap(first), m.unmap(first))
			}
			d.access(t, s, m)
			size := d.size()
			at, e := m.gap(size)
			wantGap(t, s, size, at, e)
			if t.Failed() {
				return
			}
		}
		c, cm := s.Copy(), m.copy()
		for range 60 {
			d.access(t, s, m)
			d.access(t, c, cm)
			wantErr(t, "Unmap", c.Unmap(first), cm.unmap(first))
		}
		wantShot(t, "the space", s, m.shot())
		wantShot(t, "the copy", c, cm.shot())
	}
}

// P5.5: the result of Gap is free, and nothing below it is.
func TestGapIsFree(t *testing.T) {
	d := draws(7)
	for range 30 {
		s := space.New()
		for range 30 {
			s.MapAt(d.start(), d.size(), 7)
		}
		for _, size := range []int{1, page, page + 1, 200, 1000, great} {
			at, e := s.Gap(size)
			wantOK(t, "Gap", e)
			for below := first; below < at; below += page {
				wantMapAt(t, s.Copy(), below, size, 3, api.ErrSpaceUsed)
			}
			wantMapAt(t, s.Copy(), at, size, 3, api.OK)
			wantMap(t, s.Copy(), size, 3, at, api.OK)
		}
	}
}

// P5.5: what was written stays, whatever else is mapped, protected, unmapped and written, until it is written again or its region is removed.
func TestWrittenStays(t *testing.T) {
	s := filled(t, 8192, 128, 7)
	want := counted(8192, 128)
	wantMapAt(t, s, 8192-page, page, 7, api.OK)
	wantMapAt(t, s, 8192+128, page, 7, api.OK)
	wantMap(t, s, 1000, 7, first, api.OK)
	wantOK(t, "Write", s.Write(8192-8, 1, 2, 3, 4, 5, 6, 7, 8))
	wantOK(t, "Write", s.Write(8192+128, 1, 2, 3, 4, 5, 6, 7, 8))
	wantOK(t, "Protect", s.Protect(8192, 0))
	wantErr(t, "Write", s.Write(8192, 1), api.ErrSpacePerm)
	wantOK(t, "Unmap", s.Unmap(8192-page))
	wantOK(t, "Unmap", s.Unmap(first))
	b, e := s.Peek(8192, 128)
	wantBytes(t, "what was written", b, e, want, api.OK)
	wantOK(t, "Poke", s.Poke(8192+5, 0, 0))
	want[5], want[6] = 0, 0
	b, e = s.Peek(8192, 128)
	wantBytes(t, "what was written again", b, e, want, api.OK)
	wantOK(t, "Unmap", s.Unmap(8192))
	wantMapAt(t, s, 8192, 128, 1, api.OK)
	b, e = s.Read(8192, 128)
	wantBytes(t, "a region of its own", b, e, make([]byte, 128), api.OK)
}
