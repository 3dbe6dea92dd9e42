package cpu_test

import (
	"strconv"
	"testing"

	"clevis/api"
)

// P6.1: movi, mov and tp, of registers that are the same and that are not, the first and the last one among them.
func TestMoves(t *testing.T) {
	wantStep(t, "movi r1 5", nil, becomes(1, 5))
	wantStep(t, "movi r0 0", nil, becomes(0, 0))
	wantStep(t, "movi r15 -1", nil, becomes(15, -1))
	wantStep(t, "movi r7 2147483647", nil, becomes(7, 1<<31-1))
	wantStep(t, "movi r7 -2147483648", nil, becomes(7, -1<<31))

	for _, n := range []int{0, 1, -1, 12345, least, great} {
		wantStep(t, "mov r1 r2", regs{2: n}, becomes(1, n))
		wantStep(t, "mov r15 r0", regs{0: n}, becomes(15, n))
		wantStep(t, "mov r0 r15", regs{15: n}, becomes(0, n))
		wantStep(t, "mov r3 r3", regs{3: n}, becomes(3, n))
	}

	for _, n := range []int{0, 4096, -4096, least, great} {
		for _, r := range []int{0, 9, 15} {
			line := "tp r" + strconv.Itoa(r)
			c := contextAt(at, nil)
			c.TP = n
			wantStepOf(t, programAt(t, at, line), line, c, becomes(r, n))
		}
	}
}

// calculation is what the six instructions with three registers make of b and c.
type calculation struct {
	b, c                                 int
	sum, difference, product, less, same int
}

func calculations() []calculation {
	return []calculation{
		{0, 0, 0, 0, 0, 0, 1},
		{2, 3, 5, -1, 6, 1, 0},
		{3, 2, 5, 1, 6, 0, 0},
		{-2, 3, 1, -5, -6, 1, 0},
		{3, -2, 1, 5, -6, 0, 0},
		{-2, -3, -5, 1, 6, 0, 0},
		{-3, -3, -6, 0, 9, 0, 1},
		{7, 7, 14, 0, 49, 0, 1},
		{-1, 0, -1, -1, 0, 1, 0},
		{0, -1, -1, 1, 0, 0, 0},
		{1 << 31, 1 << 31, 1 << 32, 0, 1 << 62, 0, 1},
		{1 << 32, 0, 1 << 32, 1 << 32, 0, 0, 0},
		// Results beyond an int's range.
		{1 << 32, 1 << 32, 1 << 33, 0, 0, 0, 1},
		{1 << 62, 1 << 62, least, 0, 0, 0, 1},
		{1 << 62, 2, 1<<62 + 2, 1<<62 - 2, least, 0, 0},
		{great, 1, least, great - 1, great, 0, 0},
		{1, great, least, -great + 1, great, 1, 0},
		{great, great, -2, 0, 1, 0, 1},
		{least, 1, least + 1, great, least, 1, 0},
		{1, least, least + 1, least + 1, least, 0, 0},
		{least, -1, great, least + 1, least, 1, 0},
		{-1, least, great, great, least, 0, 0},
		{least, least, 0, 0, 0, 0, 1},
		{great, least, -1, -1, least, 0, 0},
		{least, great, -1, 1, least, 1, 0},
		{great, 2, least + 1, great - 2, -2, 0, 0},
		{0, least, least, least, 0, 0, 0},
		{1 << 40, 3 << 40, 1 << 42, -1 << 41, 0, 1, 0},
		{4294967297, 4294967299, 8589934596, -2, 17179869187, 1, 0},
	}
}

// P6.1: add, sub, mul, less and same, where A is another register, B's or C's.
func TestCalculations(t *testing.T) {
	for _, n := range calculations() {
		given := regs{2: n.b, 15: n.c}
		for name, want := range map[string]int{"add": n.sum, "sub": n.difference, "mul": n.product, "less": n.less, "same": n.same} {
			wantStep(t, name+" r0 r2 r15", given, becomes(0, want))
			wantStep(t, name+" r2 r2 r15", given, becomes(2, want))
			wantStep(t, name+" r15 r2 r15", given, becomes(15, want))
		}
	}
}

// P6.1: the same register as A, B and C, and as B and C alone.
func TestCalculationsOfOneRegister(t *testing.T) {
	for _, n := range []struct{ given, sum, product int }{
		{0, 0, 0}, {5, 10, 25}, {-3, -6, 9}, {great, -2, 1}, {least, 0, 0}, {1 << 62, least, 0}, {1 << 32, 1 << 33, 0},
	} {
		for name, want := range map[string]int{"add": n.sum, "sub": 0, "mul": n.product, "less": 0, "same": 1} {
			wantStep(t, name+" r4 r4 r4", regs{4: n.given}, becomes(4, want))
			wantStep(t, name+" r5 r4 r4", regs{4: n.given}, becomes(5, want))
		}
	}
	wantStep(t, "div r4 r4 r4", regs{4: -9}, becomes(4, 1))
	wantStep(t, "div r4 r4 r4", regs{4: least}, becomes(4, 1))
	wantStep(t, "div r5 r4 r4", regs{4: great}, becomes(5, 1))
}

// P6.1: div truncates toward 0, and the quotient of the smallest int by -1 is computed modulo 2^64.
func TestDivisions(t *testing.T) {
	for _, n := range []struct{ b, c, quotient int }{
		{6, 3, 2}, {7, 2, 3}, {-7, 2, -3}, {7, -2, -3}, {-7, -2, 3},
		{1, 2, 0}, {-1, 2, 0}, {1, -2, 0}, {-1, -2, 0}, {0, 5, 0}, {0, -5, 0},
		{great, 1, great}, {great, -1, -great}, {least, 1, least}, {least, 2, -1 << 62}, {great, 2, 1<<62 - 1},
		{least, -1, least}, {least, least, 1}, {great, least, 0}, {least, great, -1}, {great, great, 1}, {least, -2, 1 << 62},
		{least + 1, -1, great}, {99999999999, 1000, 99999999}, {-99999999999, 1000, -99999999},
	} {
		given := regs{9: n.b, 3: n.c}
		wantStep(t, "div r1 r9 r3", given, becomes(1, n.quotient))
		wantStep(t, "div r9 r9 r3", given, becomes(9, n.quotient))
		wantStep(t, "div r3 r9 r3", given, becomes(3, n.quotient))
	}
}

// P6.1: a division by 0, whichever registers it is of.
func TestDivisionByZero(t *testing.T) {
	for _, b := range []int{0, 1, -1, great, least} {
		given := regs{2: b, 3: 0}
		for _, line := range []string{"div r1 r2 r3", "div r2 r2 r3", "div r3 r2 r3", "div r1 r3 r3", "div r3 r3 r3"} {
			wantTrap(t, programAt(t, at, line), line, contextAt(at, given), api.ErrArg)
		}
	}
}

// P6.1: lea tells an address, whatever is there.
func TestLea(t *testing.T) {
	wantStep(t, "lea r1 0", nil, becomes(1, next))
	wantStep(t, "lea r1 8", nil, becomes(1, next+8))
	wantStep(t, "lea r0 -8", nil, becomes(0, at))
	wantStep(t, "lea r15 -4128", nil, becomes(15, 0))
	wantStep(t, "lea r2 -4129", nil, becomes(2, -1))
	wantStep(t, "lea r2 2147483647", nil, becomes(2, next+1<<31-1))
	wantStep(t, "lea r2 -2147483648", nil, becomes(2, next-1<<31))
}
