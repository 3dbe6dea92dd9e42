package builder_test

import (
	"encoding/binary"
	"fmt"
	"regexp"
	"slices"
	"strings"

	"clevis/api"
	"clevis/code"
	"clevis/image"
	"clevis/table"
)

var isName = regexp.MustCompile(`\A[a-zA-Z0-9_.]{1,64}\z`).MatchString

// model goes by the document's words one by one, and looks through all symbols each time.
type model struct {
	spec  api.Spec
	syms  []api.Symbol
	cells []api.Reloc // without At
	jumps []int
	text  []string // lines of instructions
	data  int      // where the second segment begins
}

// modelOf returns what Build is to return.
func modelOf(spec api.Spec) (api.Image, api.Errno) {
	m := &model{spec: spec}
	if e := m.checkSpec(); e != api.OK {
		return api.Image{}, e
	}
	if e := m.passes(); e != api.OK {
		return api.Image{}, e
	}
	for _, name := range slices.Concat(spec.Init, spec.Fini) {
		if m.run(name) < 0 {
			return api.Image{}, api.ErrSpecRun
		}
	}
	// The first text only tells how long the code is.
	m.write()
	for m.data = 64; m.data < 8*len(m.text); {
		m.data += 64
	}
	m.write()
	words, tls := m.place()
	if len(m.syms) > 512 || m.data+len(words) > 65536 || len(tls) > 4096 {
		return api.Image{}, api.ErrSpecSize
	}
	im := m.image(words, tls)
	if e := image.May(im); e != api.OK {
		return api.Image{}, e
	}
	return im, api.OK
}

func (m *model) checkSpec() api.Errno {
	s := m.spec
	if len(s.Funcs) > 512 || len(s.Vars) > 512 {
		return api.ErrSpecSize
	}
	if s.Flags < 0 || s.Flags > 15 {
		return api.ErrSpecName
	}
	for _, f := range s.Funcs {
		if len(f.Lines) < 1 || len(f.Lines) > 256 {
			return api.ErrSpecLine
		}
		if f.Sym.Kind != api.Func || !m.define(f.Sym) {
			return api.ErrSpecName
		}
	}
	for _, v := range s.Vars {
		if e := m.checkVar(v); e != api.OK {
			return e
		}
	}
	for _, f := range s.Funcs {
		for _, l := range f.Lines {
			isKind := slices.Contains([]api.LineKind{api.Step, api.CallName, api.AddrName, api.TlsName, api.TpName}, l.Kind)
			if !isKind || l.A < 0 || l.A > 15 || l.Kind == api.Step && code.May(l.Inst) != api.OK {
				return api.ErrSpecLine
			}
		}
	}
	return api.OK
}

func (m *model) checkVar(v api.VarSpec) api.Errno {
	if len(v.Words) < 1 || len(v.Words) > 256 || v.Sym.Kind == api.Func {
		return api.ErrSpecVar
	}
	if v.Copied && (m.spec.Flags%2 == 0 || v.Sym.Kind != api.Var || len(v.Refs) > 0) {
		return api.ErrSpecVar
	}
	if !m.define(v.Sym) {
		return api.ErrSpecName
	}
	for i, r := range v.Refs {
		if r.Word < 0 || r.Word >= len(v.Words) || i > 0 && r.Word <= v.Refs[i-1].Word || v.Sym.Kind == api.TlsVar {
			return api.ErrSpecVar
		}
	}
	return api.OK
}

// define adds a definition if it is valid and clashes with no earlier one.
func (m *model) define(s api.Symbol) bool {
	isText := isName(s.Name) && (isName(s.Version) || s.Version == "" && !s.Old)
	isRight := isText && 1 <= s.Kind && s.Kind <= 3 && 0 <= s.Vis && s.Vis <= 2
	for _, e := range m.syms {
		if e.Name == s.Name && (e.Version == s.Version || !e.Old && !s.Old) {
			isRight = false
		}
	}
	m.syms = append(m.syms, api.Symbol{Name: s.Name, Version: s.Version, Old: s.Old, Kind: s.Kind, Weak: s.Weak, Vis: s.Vis, Defined: true})
	return isRight
}

// denote returns the index of the first symbol that is meant, or -1.
func (m *model) denote(name, version string) int {
	return slices.IndexFunc(m.syms, func(s api.Symbol) bool {
		switch {
		case s.Name != name:
			return false
		case s.Defined && version == "":
			return !s.Old
		}
		return s.Version == version
	})
}

// ask returns the symbol that is meant, a new one if need be, or -1 if it is not valid or of none of the kinds.
func (m *model) ask(name, version string, kinds ...api.SymKind) int {
	at := m.denote(name, version)
	if at < 0 {
		at = len(m.syms)
		m.syms = append(m.syms, api.Symbol{Name: name, Version: version, Kind: kinds[0], Weak: slices.Contains(m.spec.Weak, name)})
	}
	s := m.syms[at]
	if !isName(s.Name) || s.Version != "" && !isName(s.Version) || !slices.Contains(kinds, s.Kind) {
		return -1
	}
	return at
}

func (m *model) passes() api.Errno {
	for pass := 1; pass <= 2; pass++ {
		for _, f := range m.spec.Funcs {
			for _, l := range f.Lines {
				if !m.askLine(l, pass) {
					return api.ErrSpecLine
				}
			}
		}
	}
	for _, v := range m.spec.Vars {
		for _, r := range v.Refs {
			if m.ask(r.Name, r.Ver, api.Var, api.Func) < 0 {
				return api.ErrSpecVar
			}
		}
	}
	return api.OK
}

func (m *model) askLine(l api.Line, pass int) bool {
	switch {
	case pass == 1 && l.Kind == api.CallName:
		at := m.ask(l.Name, l.Ver, api.Func)
		if !slices.Contains(m.jumps, at) {
			m.jumps = append(m.jumps, at)
		}
		return at >= 0
	case pass == 1 && l.Kind == api.TlsName:
		at := m.ask(l.Name, l.Ver, api.TlsVar)
		m.cell(api.TlsMod, at)
		m.cell(api.TlsOff, at)
		return at >= 0
	case pass == 1 && l.Kind == api.TpName:
		at := m.ask(l.Name, l.Ver, api.TlsVar)
		m.cell(api.TlsTp, at)
		return at >= 0
	case pass == 2 && l.Kind == api.AddrName:
		at := m.ask(l.Name, l.Ver, api.Var, api.Func)
		m.cell(api.Abs, at)
		return at >= 0
	}
	return true
}

// cell returns the index of a cell, which is a new one if need be.
func (m *model) cell(kind api.RelocKind, sym int) int {
	c := api.Reloc{Kind: kind, Sym: sym}
	if !slices.Contains(m.cells, c) {
		m.cells = append(m.cells, c)
	}
	return slices.Index(m.cells, c)
}

// run returns the index of the function, or -1.
func (m *model) run(name string) int {
	return slices.IndexFunc(m.spec.Funcs, func(f api.FuncSpec) bool { return f.Sym.Name == name && !f.Sym.Old })
}

// put writes an instruction; a number behind % is an address.
func (m *model) put(form string, args ...int) {
	if at := len(args) - 1; strings.Contains(form, "%") {
		args = slices.Clone(args)
		args[at] -= 8 * (len(m.text) + 1)
		form = strings.ReplaceAll(form, "%", "#")
	}
	for _, arg := range args {
		form = strings.Replace(form, "#", fmt.Sprint(arg), 1)
	}
	m.text = append(m.text, form)
}

// write makes the text of the code, and places the functions.
func (m *model) write() {
	stubs := 8*len(m.text) - 24*len(m.jumps)
	m.text = nil
	cells := func(kind api.RelocKind, sym int) int { return m.data + 8*m.cell(kind, sym) }
	for i, f := range m.spec.Funcs {
		m.syms[i].Value = 8 * len(m.text)
		for _, l := range f.Lines {
			at := m.denote(l.Name, l.Ver)
			switch l.Kind {
			case api.Step:
				text, _ := code.Print(l.Inst)
				m.text = append(m.text, strings.TrimSuffix(text, "\n"))
			case api.CallName:
				m.put("call %", stubs+24*slices.Index(m.jumps, at))
			case api.AddrName:
				m.put("ldp r# %", l.A, cells(api.Abs, at))
			case api.TlsName:
				m.put("ldp r13 %", cells(api.TlsOff, at))
				m.put("ldp r# %", l.A, cells(api.TlsMod, at))
				m.put("tls r# r13", l.A)
			case api.TpName:
				m.put("ldp r13 %", cells(api.TlsTp, at))
				m.put("tp r#", l.A)
				m.put("add r# r# r13", l.A, l.A)
			}
		}
		m.syms[i].Size = 8*len(m.text) - m.syms[i].Value
	}
	for k := range m.jumps {
		m.put("ldp r14 %", m.data+8*(len(m.cells)+k))
		m.put("jmpr r14")
		m.put("bind #", k)
	}
}

// place returns the bytes of the second segment and of the template, and places the variables.
func (m *model) place() (words, tls []byte) {
	words = make([]byte, 8*(len(m.cells)+len(m.jumps)))
	for i, v := range m.spec.Vars {
		s := &m.syms[len(m.spec.Funcs)+i]
		s.Size = 8 * len(v.Words)
		s.Value = m.data + len(words)
		if s.Kind == api.TlsVar {
			s.Value = len(tls)
		}
		for _, word := range v.Words {
			if s.Kind == api.TlsVar {
				tls = binary.LittleEndian.AppendUint64(tls, uint64(word))
			} else {
				words = binary.LittleEndian.AppendUint64(words, uint64(word))
			}
		}
	}
	return words, tls
}

func (m *model) image(words, tls []byte) api.Image {
	s := m.spec
	im := api.Image{Name: s.Name, Flags: s.Flags, Needed: s.Needed, RunPath: s.RunPath, Syms: m.syms, Tls: tls, TlsSize: len(tls)}
	is, _, _ := code.Parse(strings.Join(m.text, "\n"))
	b, _ := code.Encode(is...)
	im.Segs = []api.Seg{{Size: max(1, len(b)), Bytes: b, Perm: 5}}
	if len(words) > 0 {
		im.Segs = append(im.Segs, api.Seg{At: m.data, Size: len(words), Bytes: words, Perm: 3})
	}
	im.Table, _ = table.Make(m.syms...)
	for i, c := range m.cells {
		c.At = m.data + 8*i
		im.Relocs = append(im.Relocs, c)
	}
	for i, v := range s.Vars {
		at := len(s.Funcs) + i
		if v.Copied {
			im.Relocs = append(im.Relocs, api.Reloc{At: m.syms[at].Value, Kind: api.Copy, Sym: at})
		}
		for _, r := range v.Refs {
			im.Relocs = append(im.Relocs, api.Reloc{At: m.syms[at].Value + 8*r.Word, Sym: m.denote(r.Name, r.Ver), Add: r.Add})
		}
	}
	stubs := 8 * (len(is) - 3*len(m.jumps))
	for k, at := range m.jumps {
		im.Slots = append(im.Slots, api.Slot{At: m.data + 8*(len(m.cells)+k), Sym: at, Stub: stubs + 24*k + 16})
	}
	for _, name := range s.Init {
		im.Init = append(im.Init, m.syms[m.run(name)].Value)
	}
	for _, name := range s.Fini {
		im.Fini = append(im.Fini, m.syms[m.run(name)].Value)
	}
	return im
}
