package space

import (
	"clevis/api"
)

const (
	wordSize = 8
	noPerm   = api.Perm(0)
)

// Read returns n bytes from at on, which may be read.
func (s *Space) Read(at, n int) ([]byte, api.Errno) {
	return s.take(at, n, api.Read)
}

// Write stores b from at on, where one may write.
func (s *Space) Write(at int, b ...byte) api.Errno {
	return s.put(at, b, api.Write)
}

// Fetch returns the bytes of the instruction at at, which may be executed.
func (s *Space) Fetch(at int) ([]byte, api.Errno) {
	return s.take(at, api.InstSize, api.Exec)
}

// Word returns the word at at, which may be read.
func (s *Space) Word(at int) (int, api.Errno) {
	return s.takeWord(at, api.Read)
}

// SetWord stores n as the word at at, where one may write.
func (s *Space) SetWord(at, n int) api.Errno {
	return s.putWord(at, n, api.Write)
}

// Peek is Read, whatever the permission.
func (s *Space) Peek(at, n int) ([]byte, api.Errno) {
	return s.take(at, n, noPerm)
}

// Poke is Write, whatever the permission.
func (s *Space) Poke(at int, b ...byte) api.Errno {
	return s.put(at, b, noPerm)
}

// PeekWord is Word, whatever the permission.
func (s *Space) PeekWord(at int) (int, api.Errno) {
	return s.takeWord(at, noPerm)
}

// PokeWord is SetWord, whatever the permission.
func (s *Space) PokeWord(at, n int) api.Errno {
	return s.putWord(at, n, noPerm)
}

func (s *Space) take(at, n int, need api.Perm) ([]byte, api.Errno) {
	if !isSize(n) {
		return nil, api.ErrArg
	}
	b, e := s.reach(at, n, need)
	if e != api.OK {
		return nil, e
	}
	return b.load(at, n), api.OK
}

func (s *Space) put(at int, bytes []byte, need api.Perm) api.Errno {
	if !isSize(len(bytes)) {
		return api.ErrArg
	}
	b, e := s.reach(at, len(bytes), need)
	if e != api.OK {
		return e
	}
	b.store(at, bytes)
	return api.OK
}

func (s *Space) takeWord(at int, need api.Perm) (int, api.Errno) {
	b, e := s.take(at, wordSize, need)
	n := 0
	for i, c := range b {
		n |= int(c) << (8 * i)
	}
	return n, e
}

func (s *Space) putWord(at, n int, need api.Perm) api.Errno {
	var b [wordSize]byte
	for i := range b {
		b[i] = byte(n >> (8 * i))
	}
	return s.put(at, b[:], need)
}
