package sieve_test

import (
	"strings"
	"testing"

	"clevis/sieve"
)

// P2.1: hashes of names, among them the empty one, those with bytes of 128 and more, and those whose hash is 2^31 and more.
func TestHash(t *testing.T) {
	for _, c := range []struct {
		name string
		want uint32
	}{
		{"", 5381},
		{"\x00", 177573},
		{"\x00\x00", 5859909},
		{"a", 177670},
		{"b", 177671},
		{"ab", 5863208},
		{"ba", 5863240},
		{"\x7f", 177700},
		{"\x80", 177701},
		{"\xff", 177828},
		{"\xc3\xa9", 5866513},
		{"\xff\xfe\xfd", 193663327},
		{"exit", 0x7c967e3f},
		{"printf", 0x156b2bb8},
		{"syscall", 0xbac212a0},
		{"flapenguin.me", 0x8ae9f18e},
	} {
		if got := sieve.Hash(c.name); got != c.want {
			t.Errorf("Hash(%q) is %d, want %d", c.name, got, c.want)
		}
	}
}

// P2.1: More starts with the hash that it is given, whatever it is.
func TestMore(t *testing.T) {
	for _, c := range []struct {
		h    uint32
		name string
		want uint32
	}{
		{0, "", 0},
		{0, "\x00", 0},
		{0, "a", 97},
		{0, "\xff", 255},
		{1, "a", 130},
		{5381, "a", 177670},
		{1 << 31, "", 1 << 31},
		{1 << 31, "\x00", 1 << 31},
		{1 << 31, "\x01", 1<<31 + 1},
		{1<<32 - 1, "", 1<<32 - 1},
		{1<<32 - 1, "\x20", 1<<32 - 1},
		{1<<32 - 1, "\x21", 0},
		{1<<32 - 1, "\x00", 1<<32 - 33},
	} {
		if got := sieve.More(c.h, c.name); got != c.want {
			t.Errorf("More(%d, %q) is %d, want %d", c.h, c.name, got, c.want)
		}
	}
}

// P2.1: each byte counts modulo 2^32, in numbers that are wide enough for the value and the byte.
func TestHashByDefinition(t *testing.T) {
	every := make([]byte, 256)
	for i := range every {
		every[i] = byte(i)
	}
	for _, name := range []string{string(every), strings.Repeat("\xff", 5000), strings.Repeat("clevis", 700)} {
		want := int64(5381)
		for _, b := range []byte(name) {
			want = (want*33 + int64(b)) % (1 << 32)
		}
		if got := sieve.Hash(name); int64(got) != want {
			t.Errorf("Hash of %d bytes is %d, want %d", len(name), got, want)
		}
	}
}

// P2.1: the hash of two strings, one behind the other, is More of the hash of the first one, wherever they meet.
func TestHashOfConcatenation(t *testing.T) {
	for _, whole := range []string{"", "a", "printf", "é\xff\x00é", "flapenguin.me", strings.Repeat("\xfe", 64)} {
		for cut := range len(whole) + 1 {
			if got := sieve.More(sieve.Hash(whole[:cut]), whole[cut:]); got != sieve.Hash(whole) {
				t.Errorf("%q, cut at %d: %d, want %d", whole, cut, got, sieve.Hash(whole))
			}
		}
	}
}
