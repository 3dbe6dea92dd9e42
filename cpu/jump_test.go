package cpu_test

import (
	"testing"

	"clevis/api"
)

// P6.1: jmp goes to Next + N, whatever is there, 0 and negative addresses among them.
func TestJmp(t *testing.T) {
	wantStep(t, "jmp 0", nil, moves(next))
	wantStep(t, "jmp 16", nil, moves(next+16))
	wantStep(t, "jmp -8", nil, moves(at))
	wantStep(t, "jmp -5", nil, moves(at+3))
	wantStep(t, "jmp -4128", nil, moves(0))
	wantStep(t, "jmp -4129", nil, moves(-1))
	wantStep(t, "jmp 2147483647", nil, moves(next+1<<31-1))
	wantStep(t, "jmp -2147483648", nil, moves(next-1<<31))
}

// P6.1: jz goes to Next + N if A is 0, and on otherwise.
func TestJz(t *testing.T) {
	for _, n := range []int{1, -1, 2, 1 << 32, 1 << 8, least, great} {
		wantStep(t, "jz r1 16", regs{1: n}, moves(next))
		wantStep(t, "jz r15 -4128", regs{15: n}, moves(next))
	}
	wantStep(t, "jz r1 16", regs{1: 0}, moves(next+16))
	wantStep(t, "jz r0 -8", regs{0: 0}, moves(at))
	wantStep(t, "jz r15 0", regs{15: 0}, moves(next))
	wantStep(t, "jz r2 -4128", regs{2: 0}, moves(0))
	wantStep(t, "jz r2 -2147483648", regs{2: 0}, moves(next-1<<31))
	wantStep(t, "jz r2 2147483647", regs{2: 0}, moves(next+1<<31-1))
}

// P6.1: jmpr goes to A.
func TestJmpr(t *testing.T) {
	for _, n := range []int{0, 1, -1, codeAt, at, noneAt, limit, least, great} {
		wantStep(t, "jmpr r0", regs{0: n}, moves(n))
		wantStep(t, "jmpr r7", regs{7: n}, moves(n))
		wantStep(t, "jmpr r15", regs{15: n}, moves(n))
	}
}

// called is what a call does with register 15 at top.
func called(pc, top int) outcome {
	return outcome{pc: pc, regs: regs{15: top - 8}, words: words{top - 8: next}}
}

// P6.1: call stores Next below register 15, and goes to Next + N.
func TestCall(t *testing.T) {
	for _, top := range []int{dataAt + 8, dataAt + 128, dataAt + 61, writeAt + page, limit} {
		given := regs{15: top}
		wantStep(t, "call 0", given, called(next, top))
		wantStep(t, "call 16", given, called(next+16, top))
		wantStep(t, "call -8", given, called(at, top))
		wantStep(t, "call -4128", given, called(0, top))
		wantStep(t, "call -4129", given, called(-1, top))
		wantStep(t, "call 2147483647", given, called(next+1<<31-1, top))
		wantStep(t, "call -2147483648", given, called(next-1<<31, top))
	}
}

// P6.1: callr does likewise, and goes where A pointed before, even if A is register 15.
func TestCallr(t *testing.T) {
	for _, top := range []int{dataAt + 8, dataAt + 128, dataAt + 61, writeAt + page, limit} {
		for _, n := range []int{0, 1, -1, codeAt, at, next, dataAt, limit, least, great} {
			wantStep(t, "callr r0", regs{15: top, 0: n}, called(n, top))
			wantStep(t, "callr r14", regs{15: top, 14: n}, called(n, top))
		}
		wantStep(t, "callr r15", regs{15: top}, called(top, top))
	}
}

// P6.1: ret goes where the word at register 15 points, be it 0, and adds 8 to the register.
func TestRet(t *testing.T) {
	for _, top := range []int{dataAt, dataAt + 120, dataAt + 61, readAt, limit - 8} {
		for _, n := range []int{0, 1, -1, codeAt, at, next, dataAt, limit, least, great} {
			mem := programAt(t, at, "ret")
			wantOK(t, "PokeWord", mem.PokeWord(top, n))
			wantStepOf(t, mem, "ret", contextAt(at, regs{15: top}), outcome{pc: n, regs: regs{15: top + 8}})
		}
	}
}

// P6.1: out reports A.
func TestOut(t *testing.T) {
	for _, n := range []int{0, 1, -1, 7, 1 << 32, least, great} {
		told := tells(api.Event{Kind: api.Told, N: n})
		wantStep(t, "out r0", regs{0: n}, told)
		wantStep(t, "out r1", regs{1: n}, told)
		wantStep(t, "out r15", regs{15: n}, told)
	}
}

// P6.1: tls and bind only request something: the registers' numbers, and the slot's.
func TestRequests(t *testing.T) {
	wantStep(t, "tls r1 r2", nil, tells(api.Event{Kind: api.AskTls, A: 1, B: 2}))
	wantStep(t, "tls r2 r1", nil, tells(api.Event{Kind: api.AskTls, A: 2, B: 1}))
	wantStep(t, "tls r0 r15", nil, tells(api.Event{Kind: api.AskTls, B: 15}))
	wantStep(t, "tls r15 r0", nil, tells(api.Event{Kind: api.AskTls, A: 15}))
	wantStep(t, "tls r7 r7", nil, tells(api.Event{Kind: api.AskTls, A: 7, B: 7}))
	wantStep(t, "tls r0 r0", nil, tells(api.Event{Kind: api.AskTls}))
	for text, n := range map[string]int{"bind 0": 0, "bind 1": 1, "bind -1": -1, "bind 127": 127, "bind 2147483647": 1<<31 - 1, "bind -2147483648": -1 << 31} {
		wantStep(t, text, nil, tells(api.Event{Kind: api.AskBind, N: n}))
	}
}
