package builder

import (
	"clevis/api"
)

// coder writes the instructions of a builder's image.
type coder struct {
	*builder
	insts []api.Inst
}

// instructions returns those of all functions, and then those of the stubs.
func (b *builder) instructions() []api.Inst {
	c := &coder{builder: b}
	for _, f := range b.Funcs {
		for _, l := range f.Lines {
			c.line(l)
		}
	}
	for k := range b.jumps.items {
		c.reach(api.Inst{Op: api.Ldp, A: api.RegJump}, b.slot(k))
		c.write(api.Inst{Op: api.Jmpr, A: api.RegJump}, api.Inst{Op: api.Bind, Imm: k})
	}
	return c.insts
}

func (c *coder) line(l api.Line) {
	sym := c.denoted[request{l.Name, l.Ver}]
	switch l.Kind {
	case api.Step:
		c.write(l.Inst)
	case api.CallName:
		c.reach(api.Inst{Op: api.Call}, c.stub(c.jumps.places[sym]))
	case api.AddrName:
		c.load(l.A, cell{api.Abs, sym})
	case api.TlsName:
		c.load(api.RegTmp, cell{api.TlsOff, sym})
		c.load(l.A, cell{api.TlsMod, sym})
		c.write(api.Inst{Op: api.Tls, A: l.A, B: api.RegTmp})
	case api.TpName:
		c.load(api.RegTmp, cell{api.TlsTp, sym})
		c.write(api.Inst{Op: api.Tp, A: l.A}, api.Inst{Op: api.Add, A: l.A, B: l.A, C: api.RegTmp})
	}
}

func (c *coder) load(reg int, from cell) {
	c.reach(api.Inst{Op: api.Ldp, A: reg}, c.cell(c.cells.places[from]))
}

// reach writes an instruction whose number leads to an address from the next instruction on.
func (c *coder) reach(i api.Inst, address int) {
	next := (len(c.insts) + 1) * api.InstSize
	i.Imm = address - next
	c.write(i)
}

func (c *coder) write(is ...api.Inst) {
	c.insts = append(c.insts, is...)
}
