package builder_test

import (
	"bytes"
	"reflect"
	"strconv"
	"strings"
	"testing"

	"clevis/api"
	"clevis/builder"
	"clevis/code"
	"clevis/image"
	"clevis/symver"
)

// inst is the one instruction of a text.
func inst(text string) api.Inst {
	is, _, e := code.Parse(text)
	if e != api.OK || len(is) != 1 {
		panic("no instruction: " + text)
	}
	return is[0]
}

func step(text string) api.Line { return api.Line{Inst: inst(text)} }

// line has the name and the version of a text such as f@V1.
func line(kind api.LineKind, a int, text string) api.Line {
	name, version, _ := strings.Cut(text, "@")
	return api.Line{Kind: kind, A: a, Name: name, Ver: version}
}

func call(text string) api.Line        { return line(api.CallName, 0, text) }
func addr(a int, text string) api.Line { return line(api.AddrName, a, text) }
func tlsOf(a int, text string) api.Line {
	return line(api.TlsName, a, text)
}
func tpOf(a int, text string) api.Line { return line(api.TpName, a, text) }

// ret is the shortest function's only line.
func ret() api.Line { return step("ret") }

func ref(word int, text string, add int) api.Ref {
	name, version, _ := strings.Cut(text, "@")
	return api.Ref{Word: word, Name: name, Ver: version, Add: add}
}

func sym(kind api.SymKind, text string) api.Symbol {
	s, e := symver.Parse(text, true)
	if e != api.OK {
		panic("no symbol: " + text)
	}
	s.Defined, s.Kind = false, kind
	return s
}

// fn is a function with a symbol such as f@@V1, or f@V1 for an old one.
func fn(text string, lines ...api.Line) api.FuncSpec {
	return api.FuncSpec{Sym: sym(api.Func, text), Lines: lines}
}

func variable(text string, words ...int) api.VarSpec {
	return api.VarSpec{Sym: sym(api.Var, text), Words: words}
}

func threadLocal(text string, words ...int) api.VarSpec {
	return api.VarSpec{Sym: sym(api.TlsVar, text), Words: words}
}

// refer is a variable with a word for each of the refs, and one more.
func refer(text string, refs ...api.Ref) api.VarSpec {
	v := variable(text, make([]int, len(refs)+1)...)
	v.Refs = refs
	return v
}

func funcs(fs ...api.FuncSpec) api.Spec { return api.Spec{Funcs: fs} }
func vars(vs ...api.VarSpec) api.Spec   { return api.Spec{Vars: vs} }

// lines is a spec with one function.
func lines(ls ...api.Line) api.Spec { return funcs(fn("main", ls...)) }

func long(n int) string { return strings.Repeat("n", n) }

// numbered are as many items, each made from a name of its own.
func numbered[T any](n int, of func(name string) T) []T {
	var items []T
	for i := range n {
		items = append(items, of("n"+strconv.Itoa(i)))
	}
	return items
}

// bytesOf goes by the text of the instructions.
func bytesOf(t *testing.T, text string) []byte {
	t.Helper()
	is, at, e := code.Parse(text)
	if e != api.OK {
		t.Fatalf("line %d of the text is wrong", at)
	}
	b, e := code.Encode(is...)
	if e != api.OK {
		t.Fatal("the instructions are not valid")
	}
	return b
}

// same compares images by their bytes, in which an empty list and none are the same.
func same(im, other api.Image) bool {
	b, e := image.Encode(im)
	c, f := image.Encode(other)
	return e == api.OK && f == api.OK && bytes.Equal(b, c)
}

// wantSpec wants the error, and no image with it, or else the image that the document's words lead to.
func wantSpec(t *testing.T, what string, spec api.Spec, want api.Errno) api.Image {
	t.Helper()
	got, e := builder.Build(spec)
	if e != want {
		t.Errorf("%s: Build is %d, want %d", what, e, want)
		return got
	}
	if want != api.OK {
		if !reflect.DeepEqual(got, api.Image{}) {
			t.Errorf("%s: Build has an error and an image: %+v", what, got)
		}
		return got
	}
	if e := image.May(got); e != api.OK {
		t.Errorf("%s: the image is not valid: %d", what, e)
	}
	if im, e := modelOf(spec); e != api.OK || !same(got, im) {
		t.Errorf("%s: Build is\n%+v, want (%d)\n%+v", what, got, e, im)
	}
	return got
}

// wantImage wants just this image.
func wantImage(t *testing.T, what string, spec api.Spec, want api.Image) {
	t.Helper()
	if got := wantSpec(t, what, spec, api.OK); !same(got, want) {
		t.Errorf("%s: Build is\n%+v, want\n%+v", what, got, want)
	}
}

// try is a spec, and what comes of it.
type try struct {
	what string
	want api.Errno
	spec api.Spec
}

func runTries(t *testing.T, tries []try) {
	t.Helper()
	for _, one := range tries {
		wantSpec(t, one.what, one.spec, one.want)
	}
}

// worse is the error, or none if all is right.
func worse(isRight bool, e api.Errno) api.Errno {
	if isRight {
		return api.OK
	}
	return e
}
