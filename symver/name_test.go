package symver_test

import (
	"strings"
	"testing"

	"clevis/symver"
)

func wantName(t *testing.T, s string, want bool) {
	t.Helper()
	if got := symver.Name(s); got != want {
		t.Errorf("Name(%q), of %d bytes, is %t", s, len(s), got)
	}
}

// P7.1: names of several kinds, and strings that are none.
func TestName(t *testing.T) {
	for _, s := range rightNames() {
		wantName(t, s, true)
	}
	for _, s := range append(wrongNames(), "@", "f@", "@f", "f@g", "f@@g", long(63)+"@", long(64)+"@") {
		wantName(t, s, false)
	}
}

// P7.1: each number of bytes from 0 on: 1 to 64 are permitted.
func TestNameOfEachLength(t *testing.T) {
	for n := range 300 {
		wantName(t, long(n), 1 <= n && n <= 64)
	}
}

// P7.1: each of the 256 bytes, alone and at each place of names of 3 and of 64 bytes.
func TestNameOfEachByte(t *testing.T) {
	for c := range 256 {
		s := string([]byte{byte(c)})
		want := strings.Contains(nameBytes, s)
		wantName(t, s, want)
		for _, length := range []int{3, 64} {
			for at := range length {
				wantName(t, long(at)+s+long(length-at-1), want)
			}
		}
	}
}
