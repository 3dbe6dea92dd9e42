package builder_test

import (
	"fmt"
	"math/rand/v2"
	"reflect"
	"strings"
	"testing"

	"clevis/api"
	"clevis/builder"
)

// eachList visits all lists of a value, outer ones first, and those of what a visit leaves in place.
func eachList(v reflect.Value, visit func(reflect.Value)) {
	switch v.Kind() {
	case reflect.Struct:
		for i := range v.NumField() {
			eachList(v.Field(i), visit)
		}
	case reflect.Slice:
		visit(v)
		for i := range v.Len() {
			eachList(v.Index(i), visit)
		}
	}
}

func eachListOf[T any](v *T, visit func(reflect.Value)) { eachList(reflect.ValueOf(v).Elem(), visit) }

// spacious is the spec with one more element of other contents behind each list.
func spacious(s api.Spec) api.Spec {
	eachListOf(&s, func(list reflect.Value) {
		n := list.Len()
		wide := reflect.MakeSlice(list.Type(), n+1, n+1)
		reflect.Copy(wide, list)
		if n > 0 {
			wide.Index(n).Set(list.Index(n / 2))
		}
		list.Set(wide.Slice(0, n))
	})
	return s
}

// everything is the text of all lists, with what is spare.
func everything(s api.Spec) string {
	var b strings.Builder
	eachListOf(&s, func(list reflect.Value) { fmt.Fprintf(&b, "%+v\n", list.Slice(0, list.Cap())) })
	return b.String()
}

// scribble puts zeros into all lists of a value, with what is spare.
func scribble[T any](v *T) {
	var all []reflect.Value
	eachListOf(v, func(list reflect.Value) { all = append(all, list.Slice(0, list.Cap())) })
	for _, list := range all {
		list.Clear()
	}
}

// W6: the spec is not changed, whatever comes of it.
func TestSpecIsNotChanged(t *testing.T) {
	specs := []api.Spec{full(), {}, sized(20, 20, 20)}
	for _, one := range flaws() {
		spec := full()
		one.change(&spec)
		specs = append(specs, spec)
	}
	for _, spec := range specs {
		spec = spacious(spec)
		before := everything(spec)
		builder.Build(spec)
		if everything(spec) != before {
			t.Fatal("the spec was changed")
		}
	}
}

// W6: the image keeps nothing of the spec.
func TestImageKeepsNothing(t *testing.T) {
	spec := spacious(full())
	im, _ := builder.Build(spec)
	scribble(&spec)
	if !same(im, fullImage(t)) {
		t.Fatal("the image changes with the spec")
	}
	spec = spacious(full())
	before := everything(spec)
	im, _ = builder.Build(spec)
	scribble(&im)
	if everything(spec) != before {
		t.Fatal("the spec changes with the image")
	}
}

// W6: no two lists of an image share memory, nor do those of two images.
func TestListsAreApart(t *testing.T) {
	one, _ := builder.Build(full())
	other, _ := builder.Build(full())
	var spans [][2]uintptr
	visit := func(list reflect.Value) {
		if list.Cap() > 0 {
			spans = append(spans, [2]uintptr{list.Pointer(), list.Pointer() + uintptr(list.Cap())*list.Type().Elem().Size()})
		}
	}
	eachListOf(&one, visit)
	eachListOf(&other, visit)
	for i, a := range spans {
		for _, b := range spans[:i] {
			if a[0] < b[1] && b[0] < a[1] {
				t.Fatal("two lists share memory")
			}
		}
	}
}

// P10.2, W2: equal specs yield equal images, whatever was built between.
func TestEqualSpecs(t *testing.T) {
	r := rand.New(rand.NewPCG(10, 2))
	for range 200 {
		seed := r.Uint64()
		again := func() api.Spec { return someSpec(rand.New(rand.NewPCG(seed, 0))) }
		one, e := builder.Build(again())
		builder.Build(someSpec(r))
		builder.Build(lines(call("a b")))
		other, f := builder.Build(again())
		if e != api.OK || f != api.OK || !reflect.DeepEqual(one, other) {
			t.Fatalf("images of equal specs:\n%+v (%d),\n%+v (%d)", one, e, other, f)
		}
		wantImage(t, "the same", full(), fullImage(t))
	}
}

// W5: an empty list is the same as none.
func TestEmptyLists(t *testing.T) {
	empty := api.Spec{Needed: []api.Need{}, RunPath: []string{}, Funcs: []api.FuncSpec{}, Vars: []api.VarSpec{}, Weak: []string{}, Init: []string{}, Fini: []string{}}
	none, _ := builder.Build(api.Spec{})
	wantImage(t, "empty lists", empty, none)
	spec := api.Spec{Flags: 1, Needed: []api.Need{{Name: "b"}}, Vars: []api.VarSpec{variable("v", 1)}}
	spec.Vars[0].Copied = true
	want, _ := builder.Build(spec)
	spec.Needed[0].Versions, spec.Vars[0].Refs = []string{}, []api.Ref{}
	wantImage(t, "empty lists within", spec, want)
	runTries(t, []try{
		{"no lines", api.ErrSpecLine, funcs(fn("f", []api.Line{}...))},
		{"no words", api.ErrSpecVar, vars(variable("v", []int{}...))},
	})
}
