package builder

import (
	"clevis/api"
)

const (
	wordSize  = 8
	stubInsts = 3 // of which the last one is the bind
	stubSize  = stubInsts * api.InstSize
)

// layout is where the parts of the image begin, and where the last ones end.
type layout struct {
	stubs, cellsAt, slotsAt, end, tlsEnd int
}

// lay sets the layout, and where each function and each variable is.
func (b *builder) lay() {
	at := 0
	for i, f := range b.Funcs {
		at = b.place(i, at, sizeOf(f))
	}
	b.stubs = at
	b.cellsAt = max(roundUp(b.stub(len(b.jumps.items))), api.Page)
	b.slotsAt = b.cellsAt + wordSize*len(b.cells.items)
	b.end = b.slot(len(b.jumps.items))
	for i, v := range b.Vars {
		end := &b.end
		if isTls(v) {
			end = &b.tlsEnd
		}
		*end = b.place(b.symOf(i), *end, wordSize*len(v.Words))
	}
}

func (l layout) stub(jump int) int {
	return l.stubs + stubSize*jump
}

// bind returns where the last instruction of a stub is.
func (l layout) bind(jump int) int {
	return l.stub(jump+1) - api.InstSize
}

func (l layout) slot(jump int) int {
	return l.slotsAt + wordSize*jump
}

func (l layout) cell(place int) int {
	return l.cellsAt + wordSize*place
}

// symOf returns the index of the symbol of a variable.
func (b *builder) symOf(variable int) int {
	return len(b.Funcs) + variable
}

func isTls(v api.VarSpec) bool {
	return v.Sym.Kind == api.TlsVar
}

func sizeOf(f api.FuncSpec) int {
	size := 0
	for _, l := range f.Lines {
		size += instCount(l.Kind) * api.InstSize
	}
	return size
}

func instCount(kind api.LineKind) int {
	switch kind {
	case api.TlsName, api.TpName:
		return 3
	}
	return 1
}

func roundUp(n int) int {
	return (n + api.Page - 1) / api.Page * api.Page
}
