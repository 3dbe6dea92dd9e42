package cpu

import "clevis/api"

const wordSize = 8

// execute has PC at Next already, so that all addresses that are told from Next on are told from PC on.
func (m *machine) execute(i api.Inst) (api.Event, api.Errno) {
	event, e := api.Event{Kind: api.Ran}, api.OK
	switch i.Op {
	case api.Out:
		event = api.Event{Kind: api.Told, N: m.Regs[i.A]}
	case api.Tls:
		event = api.Event{Kind: api.AskTls, A: i.A, B: i.B}
	case api.Bind:
		event = api.Event{Kind: api.AskBind, N: i.Imm}
	case api.St:
		e = m.SetWord(m.Regs[i.B]+i.Imm, m.Regs[i.A])
	case api.Jmp, api.Jz, api.Call, api.Callr, api.Jmpr, api.Ret:
		e = m.jump(i)
	default:
		m.Regs[i.A], e = m.value(i)
	}
	return event, e
}

// value returns what register A becomes.
func (m *machine) value(i api.Inst) (int, api.Errno) {
	switch i.Op {
	case api.Movi:
		return i.Imm, api.OK
	case api.Mov:
		return m.Regs[i.B], api.OK
	case api.Ld:
		return m.Word(m.Regs[i.B] + i.Imm)
	case api.Ldp:
		return m.Word(m.PC + i.Imm)
	case api.Lea:
		return m.PC + i.Imm, api.OK
	case api.Tp:
		return m.TP, api.OK
	}
	return calculate(i.Op, m.Regs[i.B], m.Regs[i.C])
}

// calculate relies on Go's ints: they wrap around as the machine's do, even where the smallest one is divided by -1.
func calculate(op api.Op, b, c int) (int, api.Errno) {
	switch op {
	case api.Add:
		return b + c, api.OK
	case api.Sub:
		return b - c, api.OK
	case api.Mul:
		return b * c, api.OK
	case api.Div:
		if c == 0 {
			return 0, api.ErrArg
		}
		return b / c, api.OK
	case api.Less:
		return oneIf(b < c), api.OK
	case api.Same:
		return oneIf(b == c), api.OK
	}
	return 0, api.ErrCode // halt
}

func oneIf(holds bool) int {
	if holds {
		return 1
	}
	return 0
}

func (m *machine) jump(i api.Inst) api.Errno {
	// A call may change register A before it goes where that pointed.
	a, to := m.Regs[i.A], m.PC+i.Imm
	switch i.Op {
	case api.Jmp:
		m.PC = to
	case api.Jz:
		if a == 0 {
			m.PC = to
		}
	case api.Jmpr:
		m.PC = a
	case api.Call:
		return m.call(to)
	case api.Callr:
		return m.call(a)
	case api.Ret:
		return m.ret()
	}
	return api.OK
}

func (m *machine) call(to int) api.Errno {
	m.Regs[api.RegStack] -= wordSize
	e := m.SetWord(m.Regs[api.RegStack], m.PC)
	m.PC = to
	return e
}

func (m *machine) ret() api.Errno {
	next, e := m.Word(m.Regs[api.RegStack])
	m.Regs[api.RegStack] += wordSize
	m.PC = next
	return e
}
