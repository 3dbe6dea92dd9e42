package builder

import (
	"clevis/api"
	"clevis/code"
	"clevis/symver"
)

// allFlags is everything that Flags may have.
const allFlags = api.Program | api.NoDelete | api.Static | api.Now

// define returns the first error that the spec has whatever its names denote, and adds its functions and variables to the symbols.
func (b *builder) define() api.Errno {
	switch {
	case len(b.Funcs) > api.MaxSyms, len(b.Vars) > api.MaxSyms:
		return api.ErrSpecSize
	case !isWithin(int(b.Flags), 0, int(allFlags)):
		return api.ErrSpecName
	}
	if e := firstError(b.defineFunc, b.Funcs...); e != api.OK {
		return e
	}
	if e := firstError(b.defineVar, b.Vars...); e != api.OK {
		return e
	}
	return firstError(checkLines, b.Funcs...)
}

func (b *builder) defineFunc(f api.FuncSpec) api.Errno {
	if !isWithin(len(f.Lines), 1, api.MaxLines) {
		return api.ErrSpecLine
	}
	if f.Sym.Kind != api.Func {
		return api.ErrSpecName
	}
	return b.defineSymbol(f.Sym)
}

func (b *builder) defineVar(v api.VarSpec) api.Errno {
	isSize := isWithin(len(v.Words), 1, api.MaxLines)
	if !isSize || v.Sym.Kind == api.Func || v.Copied && !b.isCopy(v) {
		return api.ErrSpecVar
	}
	if e := b.defineSymbol(v.Sym); e != api.OK {
		return e
	}
	if !areRefs(v) {
		return api.ErrSpecVar
	}
	return api.OK
}

func (b *builder) isCopy(v api.VarSpec) bool {
	return b.Flags&api.Program != 0 && v.Sym.Kind == api.Var && len(v.Refs) == 0
}

// defineSymbol takes only what a spec may say of a symbol: its place follows from the layout.
func (b *builder) defineSymbol(s api.Symbol) api.Errno {
	s.Defined, s.Value, s.Size = true, 0, 0
	if symver.Right(s) != api.OK || b.clashes(s) {
		return api.ErrSpecName
	}
	b.add(s)
	return api.OK
}

func areRefs(v api.VarSpec) bool {
	least := 0
	for _, r := range v.Refs {
		if !isWithin(r.Word, least, len(v.Words)-1) {
			return false
		}
		least = r.Word + 1
	}
	return len(v.Refs) == 0 || v.Sym.Kind != api.TlsVar
}

func checkLines(f api.FuncSpec) api.Errno {
	return firstError(checkLine, f.Lines...)
}

func checkLine(l api.Line) api.Errno {
	isKind := isWithin(int(l.Kind), int(api.Step), int(api.TpName))
	isReg := isWithin(l.A, 0, api.Regs-1)
	if !isKind || !isReg || l.Kind == api.Step && code.May(l.Inst) != api.OK {
		return api.ErrSpecLine
	}
	return api.OK
}

func isWithin(n, least, most int) bool {
	return least <= n && n <= most
}
