package sig_test

import (
	"fmt"
	"reflect"
	"slices"
	"strconv"
	"strings"
	"testing"
	"unsafe"

	"quoin/api"
	"quoin/sig"
)

// grafted is a copy of a value all of whose lists are new, with so many elements of spare capacity.
func grafted(x reflect.Value, spare int) reflect.Value {
	y := reflect.New(x.Type()).Elem()
	switch x.Kind() {
	case reflect.Struct:
		for i := range x.NumField() {
			y.Field(i).Set(grafted(x.Field(i), spare))
		}
	case reflect.Slice:
		if x.IsNil() && spare == 0 {
			return y
		}
		all := reflect.MakeSlice(x.Type(), x.Len()+spare, x.Len()+spare)
		for i := range all.Len() {
			if i < x.Len() {
				all.Index(i).Set(grafted(x.Index(i), spare))
			} else {
				all.Index(i).Set(odd(x.Type().Elem(), 2))
			}
		}
		y.Set(all.Slice(0, x.Len()))
	default:
		y.Set(x)
	}
	return y
}

// odd is a value that no field of what is handed in has.
func odd(of reflect.Type, levels int) reflect.Value {
	y := reflect.New(of).Elem()
	switch of.Kind() {
	case reflect.Struct:
		for i := range of.NumField() {
			y.Field(i).Set(odd(of.Field(i).Type, levels))
		}
	case reflect.Slice:
		if levels > 0 {
			y.Set(reflect.Append(y, odd(of.Elem(), levels-1)))
		}
	case reflect.String:
		y.SetString("spare")
	case reflect.Int:
		y.SetInt(4)
	case reflect.Bool:
		y.SetBool(true)
	}
	return y
}

// full is a copy of a value in which the spare capacity of lists counts too.
func full(x reflect.Value) reflect.Value {
	y := reflect.New(x.Type()).Elem()
	switch x.Kind() {
	case reflect.Struct:
		for i := range x.NumField() {
			y.Field(i).Set(full(x.Field(i)))
		}
	case reflect.Slice:
		all := x.Slice3(0, x.Cap(), x.Cap())
		for i := range all.Len() {
			y.Set(reflect.Append(y, full(all.Index(i))))
		}
	default:
		y.Set(x)
	}
	return y
}

func copied[T any](x T) T { return grafted(reflect.ValueOf(x), 0).Interface().(T) }

func spared[T any](x T) T { return grafted(reflect.ValueOf(x), 2).Interface().(T) }

func whole[T any](x T) T { return full(reflect.ValueOf(x)).Interface().(T) }

// span is where a list, with its spare capacity, or a text lies.
type span struct{ begin, end uintptr }

// spans are those of all lists, or else of all texts, of a value.
func spans(x reflect.Value, texts bool) []span {
	var l []span
	add := func(begin unsafe.Pointer, bytes uintptr) {
		if bytes > 0 {
			l = append(l, span{uintptr(begin), uintptr(begin) + bytes})
		}
	}
	switch x.Kind() {
	case reflect.Struct:
		for i := range x.NumField() {
			l = append(l, spans(x.Field(i), texts)...)
		}
	case reflect.Slice:
		if !texts && x.Cap() > 0 {
			add(x.UnsafePointer(), uintptr(x.Cap())*x.Type().Elem().Size())
		}
		for i := range x.Len() {
			l = append(l, spans(x.Index(i), texts)...)
		}
	case reflect.String:
		if texts {
			add(unsafe.Pointer(unsafe.StringData(x.String())), uintptr(x.Len()))
		}
	}
	return l
}

// apart holds that no two of the spans overlap.
func apart(l []span) bool {
	l = slices.Clone(l)
	slices.SortFunc(l, func(a, b span) int {
		if a.begin < b.begin {
			return -1
		}
		return 1
	})
	for i := 1; i < len(l); i++ {
		if l[i].begin < l[i-1].end {
			return false
		}
	}
	return true
}

// handed is what each function is given at once.
type handed struct {
	F       api.File
	Imports []api.Iface
	S       api.Scope
	X       api.TypeX
	L       []api.Diag
}

// answered is what each function answers to it.
type answered struct {
	P     api.Iface
	Wrong []api.Diag
	T     api.Type
	D     api.Diag
	L     []api.Diag
}

func (h handed) asked() answered {
	var a answered
	a.P, a.Wrong = sig.Build(h.F, h.Imports)
	a.T, a.D = sig.Type(h.S, h.X)
	a.L = sig.Sorted(h.L)
	return a
}

func (d *dice) handed() handed {
	h := handed{F: d.file(), Imports: few(d, 3, d.iface), X: d.typeX(4)}
	h.S = api.Scope{W: few(d, 3, d.iface), Imports: []string{"a", "b"}, Names: few(d, 3, func() string { return d.of("P", "Q", "T") }), Bounds: []api.Type{named("a", "I")}, Vars: []api.Var{{Name: "x", T: list(ofKind(1))}}}
	h.L = few(d, 9, func() api.Diag { return api.Diag{At: d.below(4), Code: d.below(4)} })
	for i := range h.F.Decls {
		h.F.Decls[i].Body = []api.Stmt{{Kind: 1, Name: "x", X: api.Expr{Kind: 4, Name: "x", Args: []api.Expr{{}}}, Body: []api.Stmt{{}}}}
	}
	return h
}

// P10.1 to P10.4, R4, R5: what is handed in stays as it is, its spare capacity too, and this is not read.
func TestArguments(t *testing.T) {
	d := dice(5)
	for range 200 {
		bare := d.handed()
		h := spared(bare)
		if fmt.Sprint(h) != fmt.Sprint(bare) {
			t.Fatal("no copy")
		}
		before := whole(h)
		got, want := h.asked(), bare.asked()
		if !reflect.DeepEqual(whole(h), before) {
			t.Fatalf("changed: %s", told(h))
		}
		if fmt.Sprint(got) != fmt.Sprint(want) {
			t.Fatalf("%s: %s; want %s", told(h), told(got), told(want))
		}
		against(t, h.F, h.Imports)
	}
}

// R4: no two lists of a result share memory, and none shares it with what was handed in, spare capacity counted; nor do texts with what was handed in.
func TestNewMemory(t *testing.T) {
	d := dice(7)
	lists := 0
	for range 500 {
		h := spared(d.handed())
		one, two := h.asked(), h.asked()
		v := func(x any) reflect.Value { return reflect.ValueOf(x) }
		taken := spans(v(h), false)
		first := spans(v(one), false)
		lists += len(first)
		if !apart(slices.Concat(taken, first, spans(v(two), false))) {
			t.Fatalf("%s: shared lists", told(h))
		}
	}
	if lists < 2000 {
		t.Errorf("too few lists: %d", lists)
	}
}

// R4: a text that is answered does not keep the one that it was cut out of.
func TestNewTexts(t *testing.T) {
	text := strings.Clone("package a;import b;type T struct{x b.T;y T1;}type T1 interface{m(T)T;}func f[P T1](p P,q []P)P{}func(t T)n(u T1)b.T{}")
	begin := uintptr(unsafe.Pointer(unsafe.StringData(text)))
	piece := func(mark string) string { return text[strings.Index(text, mark):][:1] }
	imports := []api.Iface{{Pkg: piece("b;"), Types: []api.TypeDecl{{Name: piece("T ")}}}}
	f := parsed(t, text)
	// As filex copies names, they are cut out of the text again.
	var cut func(x reflect.Value)
	cut = func(x reflect.Value) {
		switch x.Kind() {
		case reflect.Struct:
			for i := range x.NumField() {
				cut(x.Field(i))
			}
		case reflect.Slice:
			for i := range x.Len() {
				cut(x.Index(i))
			}
		case reflect.String:
			at := strings.Index(text, x.String())
			x.SetString(text[at:][:x.Len()])
		}
	}
	cut(reflect.ValueOf(&f).Elem())
	p, wrong := sig.Build(f, imports)
	if want := "a: struct T{x b.T;y a.T1;n(a.T1)b.T;} interface T1{m(a.T)a.T;} func f[a.T1](P'0,[]P'0)P'0"; spell(p) != want || len(wrong) > 0 {
		t.Fatalf("%s, %v", spell(p), wrong)
	}
	s := api.Scope{W: []api.Iface{{Pkg: piece("a;"), Types: imports[0].Types}, imports[0]}, Imports: []string{imports[0].Pkg}, Names: []string{piece("P ")}}
	answers := []any{p}
	for _, x := range []api.TypeX{xName(0, "", imports[0].Types[0].Name), xName(0, imports[0].Pkg, imports[0].Types[0].Name), xName(0, "", s.Names[0])} {
		got, d := sig.Type(s, x)
		if d.Code != 0 || got.Kind == 0 {
			t.Fatalf("%v, %v", got, d)
		}
		answers = append(answers, got)
	}
	count := 0
	for _, a := range answers {
		for _, one := range spans(reflect.ValueOf(a), true) {
			count++
			if one.begin < begin+uintptr(len(text)) && begin < one.end {
				t.Errorf("%v: memory of the argument", a)
			}
		}
	}
	if count < 20 {
		t.Errorf("too few texts: %d", count)
	}
}

// R5: the same answers each time, whatever was asked before, and by however many at a time.
func TestAgain(t *testing.T) {
	d := dice(9)
	var all []handed
	var want []answered
	for range 100 {
		h := d.handed()
		all, want = append(all, h), append(want, h.asked())
	}
	for k := range 4 {
		t.Run(strconv.Itoa(k), func(t *testing.T) {
			t.Parallel()
			for range 10 {
				for i, h := range all {
					if got := h.asked(); !reflect.DeepEqual(got, want[i]) {
						t.Fatalf("%s: %s; want %s", told(h), told(got), told(want[i]))
					}
				}
			}
		})
	}
}
