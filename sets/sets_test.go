package sets_test

import (
	"fmt"
	"math"
	"reflect"
	"slices"
	"strconv"
	"strings"
	"testing"

	"quoin/api"
	"quoin/sets"
	"quoin/term"
)

// unknown are numbers that are no Kind of a type.
func unknown() []int { return []int{8, 9, -1, -5, 255, 256, math.MaxInt, math.MinInt} }

func ofKind(kind int) api.Type { return api.Type{Kind: kind} }

func named(pack, name string) api.Type { return api.Type{Kind: 4, Pkg: pack, Name: name} }

func list(args ...api.Type) api.Type { return api.Type{Kind: 5, Args: args} }

func param(n int) api.Type { return api.Type{Kind: 6, N: n, Name: "P" + strconv.Itoa(n)} }

// typed is a type, by what package term tells of it; P0 is the parameter 0.
func typed(text string) api.Type {
	if of, is := strings.CutPrefix(text, "[]"); is {
		return list(typed(of))
	}
	if pack, name, is := strings.Cut(text, "."); is {
		return named(pack, name)
	}
	if kind := slices.Index([]string{"?", "int", "bool", "text", "", "", "", "none"}, text); kind >= 0 && text != "" {
		return ofKind(kind)
	}
	n, err := strconv.Atoi(text[1:])
	if err != nil {
		panic(text)
	}
	return param(n)
}

// method is one by a text such as m(int,bool)none.
func method(text string) api.Method {
	name, rest, _ := strings.Cut(text, "(")
	params, result, _ := strings.Cut(rest, ")")
	m := api.Method{Name: name, Result: typed(result)}
	for _, p := range strings.Split(params, ",") {
		if params != "" {
			m.Params = append(m.Params, typed(p))
		}
	}
	return m
}

// holding is a declaration with fields and methods: f int is a field.
func holding(name string, isStruct bool, members []string) api.TypeDecl {
	d := api.TypeDecl{Name: name, Struct: isStruct}
	for _, text := range members {
		if field, of, is := strings.Cut(text, " "); is {
			d.Fields = append(d.Fields, api.Field{Name: field, T: typed(of)})
		} else {
			d.Methods = append(d.Methods, method(text))
		}
	}
	return d
}

func structOf(name string, members ...string) api.TypeDecl { return holding(name, true, members) }

func ifaceOf(name string, members ...string) api.TypeDecl { return holding(name, false, members) }

func pack(name string, types ...api.TypeDecl) api.Iface { return api.Iface{Pkg: name, Types: types} }

func scope(w ...api.Iface) api.Scope { return api.Scope{W: w} }

// bounded has bounds for type parameters, by their texts.
func bounded(s api.Scope, bounds ...string) api.Scope {
	for _, b := range bounds {
		s.Bounds = append(s.Bounds, typed(b))
	}
	return s
}

// The model: each promise to the letter.

func modelFind(s api.Scope, t api.Type) (api.TypeDecl, bool) {
	for _, p := range s.W {
		if t.Kind != 4 || p.Pkg != t.Pkg {
			continue
		}
		for _, d := range p.Types {
			if d.Name == t.Name {
				return d, true
			}
		}
		return api.TypeDecl{}, false
	}
	return api.TypeDecl{}, false
}

func modelIface(s api.Scope, t api.Type) bool {
	d, is := modelFind(s, t)
	return is && !d.Struct
}

func modelMethods(s api.Scope, t api.Type) []api.Method {
	if t.Kind == 6 {
		for n, b := range s.Bounds {
			if n == t.N && modelIface(s, b) {
				return modelMethods(s, b)
			}
		}
	}
	d, _ := modelFind(s, t)
	return d.Methods
}

func modelField(s api.Scope, t api.Type, name string) (api.Type, bool) {
	d, is := modelFind(s, t)
	for _, f := range d.Fields {
		if is && d.Struct && f.Name == name {
			return f.T, true
		}
	}
	return api.Type{}, false
}

func modelAlike(a, b api.Type) bool {
	if a.Kind == 0 || b.Kind == 0 {
		return true
	}
	if a.Kind == 5 && b.Kind == 5 {
		return modelAllAlike(a.Args, b.Args)
	}
	return term.Same(a, b)
}

func modelAllAlike(a, b []api.Type) bool {
	if len(a) != len(b) {
		return false
	}
	for i := range a {
		if !modelAlike(a[i], b[i]) {
			return false
		}
	}
	return true
}

func modelMeets(s api.Scope, t, i api.Type) bool {
	for _, m := range modelMethods(s, i) {
		has := slices.IndexFunc(modelMethods(s, t), func(n api.Method) bool { return n.Name == m.Name })
		if has < 0 {
			return false
		}
		if n := modelMethods(s, t)[has]; !modelAllAlike(n.Params, m.Params) || !modelAlike(n.Result, m.Result) {
			return false
		}
	}
	return modelIface(s, i)
}

func modelAssign(s api.Scope, from, to api.Type) bool {
	return from.Kind != 7 && to.Kind != 7 && (modelAlike(from, to) || modelMeets(s, from, to))
}

// spell is a value's text, in which a list that is nil and an empty one are the same.
func spell(x any) string { return fmt.Sprintf("%+v", x) }

// told is the beginning of it.
func told(x any) string { return fmt.Sprintf("%.1500s", spell(x)) }

// against holds what is told of one type against the model.
func against(t *testing.T, s api.Scope, x api.Type) {
	t.Helper()
	d, is := sets.Find(s, x)
	if want, be := modelFind(s, x); is != be || spell(d) != spell(want) {
		t.Fatalf("Find(%s, %s): %s, %v; model %s, %v", told(s), told(x), told(d), is, told(want), be)
	}
	if got, want := sets.Iface(s, x), modelIface(s, x); got != want {
		t.Fatalf("Iface(%s, %s): %v; model %v", told(s), told(x), got, want)
	}
	if got, want := sets.Methods(s, x), modelMethods(s, x); spell(got) != spell(want) {
		t.Fatalf("Methods(%s, %s): %s; model %s", told(s), told(x), told(got), told(want))
	}
}

func wantFind(t *testing.T, s api.Scope, x api.Type, want api.TypeDecl, is bool) {
	t.Helper()
	against(t, s, x)
	if got, be := sets.Find(s, x); spell(got) != spell(want) || be != is {
		t.Fatalf("Find(%s, %s): %s, %v; want %s, %v", told(s), told(x), told(got), be, told(want), is)
	}
	if got := sets.Iface(s, x); got != (is && !want.Struct) {
		t.Fatalf("Iface(%s, %s): %v", told(s), told(x), got)
	}
}

func wantMethods(t *testing.T, s api.Scope, x api.Type, want ...string) {
	t.Helper()
	against(t, s, x)
	var l []api.Method
	for _, text := range want {
		l = append(l, method(text))
	}
	if got := sets.Methods(s, x); spell(got) != spell(l) {
		t.Fatalf("Methods(%s, %s): %s; want %s", told(s), told(x), told(got), told(l))
	}
}

func wantField(t *testing.T, s api.Scope, x api.Type, name string, want api.Type, is bool) {
	t.Helper()
	got, be := sets.Field(s, x, name)
	model, bm := modelField(s, x, name)
	if spell(got) != spell(want) || be != is || spell(model) != spell(want) || bm != is {
		t.Fatalf("Field(%s, %s, %q): %s, %v; model %s, %v; want %s, %v", told(s), told(x), name, told(got), be, told(model), bm, told(want), is)
	}
}

// wantAlike asks both ways round.
func wantAlike(t *testing.T, a, b api.Type, want bool) {
	t.Helper()
	if x, y, m := sets.Alike(a, b), sets.Alike(b, a), modelAlike(a, b); x != want || y != want || m != want {
		t.Fatalf("Alike(%s, %s): %v, and %v; model %v; want %v", told(a), told(b), x, y, m, want)
	}
}

func wantMeets(t *testing.T, s api.Scope, x, i api.Type, want bool) {
	t.Helper()
	if got, model := sets.Meets(s, x, i), modelMeets(s, x, i); got != want || model != want {
		t.Fatalf("Meets(%s, %s, %s): %v; model %v; want %v", told(s), told(x), told(i), got, model, want)
	}
}

func wantAssign(t *testing.T, s api.Scope, from, to api.Type, want bool) {
	t.Helper()
	if got, model := sets.Assign(s, from, to), modelAssign(s, from, to); got != want || model != want {
		t.Fatalf("Assign(%s, %s, %s): %v; model %v; want %v", told(s), told(from), told(to), got, model, want)
	}
}

// The chapter's examples.
func TestExamples(t *testing.T) {
	s := bounded(scope(pack("a", structOf("T", "f int", "m(int)bool"), ifaceOf("I", "m(int)bool"), ifaceOf("J", "n()none"))), "a.I")
	T, I, J := typed("a.T"), typed("a.I"), typed("a.J")
	wantMeets(t, s, T, I, true)
	wantMeets(t, s, T, J, false)
	wantMeets(t, s, I, I, true)
	wantAssign(t, s, T, I, true)
	wantAssign(t, s, I, T, false)
	wantAssign(t, s, typed("int"), typed("int"), true)
	wantField(t, s, T, "f", typed("int"), true)
	wantMethods(t, s, typed("P0"), "m(int)bool")
	wantAlike(t, typed("[]?"), typed("[]int"), true)
	wantAssign(t, s, typed("?"), T, true)
	wantAssign(t, s, typed("none"), typed("none"), false)
}

// P11.1: the first package with the name, in it the first type with the name, and nothing behind these.
func TestFind(t *testing.T) {
	one, two, other := structOf("T", "f int", "g []a.T", "m(int,a.T)bool", "n()none"), ifaceOf("T", "m()int"), structOf("T")
	i, empty := ifaceOf("I", "m(int)I.J"), structOf("")
	none := api.TypeDecl{}
	s := scope(pack("a", i, one, two, empty), pack("b", two, one), pack("a", other, structOf("U")), pack("", structOf("E", "x text")), pack("c"), pack("c", i))
	wantFind(t, s, named("a", "T"), one, true)
	wantFind(t, s, named("a", "I"), i, true)
	wantFind(t, s, named("a", ""), empty, true)
	wantFind(t, s, named("b", "T"), two, true)
	wantFind(t, s, named("", "E"), structOf("E", "x text"), true)
	for _, x := range []api.Type{named("a", "U"), named("b", "I"), named("c", "I"), named("", "T"), named("", ""), named("d", "T"), named("A", "T"), named("a", "t"), named("a", "T "), named("a\x00", "T"), named("aa", "T")} {
		wantFind(t, s, x, none, false)
	}
	// What a KNamed does not use changes nothing.
	wantFind(t, s, api.Type{Kind: 4, Pkg: "a", Name: "T", N: 7, Args: []api.Type{named("a", "I")}}, one, true)
	for _, kind := range append(unknown(), 0, 1, 2, 3, 5, 6, 7) {
		wantFind(t, s, api.Type{Kind: kind, Pkg: "a", Name: "T", Args: []api.Type{named("a", "T")}}, none, false)
		wantMethods(t, s, api.Type{Kind: kind, Pkg: "a", Name: "T", Args: []api.Type{named("a", "T")}})
	}
	for _, w := range [][]api.Iface{nil, {}, {{}}, {{}, pack("a")}, {pack("b", one)}} {
		wantFind(t, scope(w...), named("a", "T"), none, false)
	}
	wantFind(t, scope(pack("\xff\x00", structOf("\xfe"))), named("\xff\x00", "\xfe"), structOf("\xfe"), true)
	// Neither Imports nor Names hide or show a type; functions are none.
	s.Imports, s.Names, s.Vars = []string{"c"}, []string{"T"}, []api.Var{{Name: "T", T: named("b", "T")}}
	s.W[0].Funcs = []api.FuncDecl{{Name: "U"}}
	wantFind(t, s, named("a", "T"), one, true)
	wantFind(t, s, named("a", "U"), none, false)
}

// P11.2: of what is declared, of parameters by their bounds, and of nothing else.
func TestMethods(t *testing.T) {
	w := scope(pack("a", structOf("T", "f int", "m(int)bool", "n()none", "m()text"), ifaceOf("I", "o(a.T,[]P0)P1", "o()int"), ifaceOf("E"), structOf("S")), pack("b", ifaceOf("I", "q()?"), ifaceOf("T", "r()int")), pack("a", structOf("X", "x()int")))
	s := bounded(w, "a.I", "a.T", "b.T", "P0", "int", "[]a.I", "?", "none", "a.X", "b.X", "c.I", "a.E", "b.I")
	wantMethods(t, s, typed("a.T"), "m(int)bool", "n()none", "m()text")
	wantMethods(t, s, typed("a.I"), "o(a.T,[]P0)P1", "o()int")
	wantMethods(t, s, typed("b.T"), "r()int")
	for _, text := range []string{"a.S", "a.E", "a.X", "b.X", "c.I", ".I", "int", "bool", "text", "none", "?", "[]a.T", "[]a.I", "[]P0"} {
		wantMethods(t, s, typed(text))
	}
	for n, want := range [][]string{{"o(a.T,[]P0)P1", "o()int"}, {}, {"r()int"}, {}, {}, {}, {}, {}, {}, {}, {}, {}, {"q()?"}, {}} {
		wantMethods(t, s, param(n), want...)
		// Neither its name nor what else it has matters.
		wantMethods(t, s, api.Type{Kind: 6, N: n, Pkg: "a", Name: "T", Args: []api.Type{typed("a.T")}}, want...)
	}
	for _, n := range []int{-1, -13, 13, 14, math.MaxInt, math.MinInt} {
		wantMethods(t, s, param(n))
	}
	wantMethods(t, w, param(0))
	wantMethods(t, bounded(api.Scope{}, "a.I"), param(0))
	// The number counts for a parameter alone, and the bounds' names for nothing.
	s.Names = []string{"Q", "a.I"}
	wantMethods(t, s, api.Type{Kind: 4, Pkg: "a", Name: "S", N: 2})
	wantMethods(t, s, api.Type{Kind: 6, N: 1, Name: "Q"})
	wantMethods(t, bounded(w, "a.T", "a.I"), api.Type{Kind: 6, N: 1, Name: "P0"}, "o(a.T,[]P0)P1", "o()int")
}

// P11.2: the first field with the name, of structs alone.
func TestField(t *testing.T) {
	s := bounded(scope(pack("a", structOf("T", "f int", "g []a.T", "f bool", "n none", "q ?", "p P0", " text", "m(int)bool"), ifaceOf("I", "f int", "m()int"), structOf("E")), pack("b", structOf("T", "b b.T")), pack("a", structOf("U", "f int"))), "a.I", "a.T")
	for name, want := range map[string]string{"f": "int", "g": "[]a.T", "n": "none", "q": "?", "p": "P0", "": "text"} {
		wantField(t, s, typed("a.T"), name, typed(want), true)
		for _, text := range []string{"a.I", "a.E", "a.U", "b.T", "c.T", ".T", "P0", "P1", "int", "none", "?", "[]a.T"} {
			wantField(t, s, typed(text), name, api.Type{}, false)
		}
		wantField(t, scope(), typed("a.T"), name, api.Type{}, false)
	}
	for _, name := range []string{"m", "F", "ff", "f ", "T", "a.T", "int", "\x00"} {
		wantField(t, s, typed("a.T"), name, api.Type{}, false)
	}
	wantField(t, s, typed("b.T"), "b", typed("b.T"), true)
	for _, kind := range append(unknown(), 0, 1, 2, 3, 5, 6, 7) {
		wantField(t, s, api.Type{Kind: kind, Pkg: "a", Name: "T"}, "f", api.Type{}, false)
	}
	odd := api.Type{Kind: -3, Pkg: "p", Name: "n", N: -8, Args: []api.Type{list(), {Kind: 99, N: 1}}}
	wantField(t, scope(pack("\xff", api.TypeDecl{Name: "\x80", Struct: true, Fields: []api.Field{{Name: "\x00\xff", T: odd}}})), named("\xff", "\x80"), "\x00\xff", odd, true)
}

// P11.3: KBad and lists; for all else what term tells.
func TestAlike(t *testing.T) {
	for _, x := range []struct {
		a, b string
		want bool
	}{
		{"?", "?", true}, {"?", "int", true}, {"?", "none", true}, {"?", "[]int", true}, {"?", "a.T", true}, {"?", "P3", true}, {"?", "[]?", true},
		{"int", "int", true}, {"int", "bool", false}, {"int", "text", false}, {"none", "none", true}, {"none", "int", false},
		{"a.T", "a.T", true}, {"a.T", "b.T", false}, {"a.T", "a.U", false}, {"a.T", "[]a.T", false},
		{"P0", "P0", true}, {"P0", "P1", false}, {"P0", "a.P0", false},
		{"[]int", "[]int", true}, {"[]int", "[]bool", false}, {"[]int", "[]?", true}, {"[]int", "int", false}, {"[]int", "[][]int", false},
		{"[][]?", "[][]int", true}, {"[][]?", "[]int", false}, {"[][]?", "[]?", true}, {"[][]?", "[][][]bool", true}, {"[]P0", "[]P0", true}, {"[]P0", "[]P1", false}, {"[]a.T", "[]b.T", false},
	} {
		wantAlike(t, typed(x.a), typed(x.b), x.want)
	}
	i, b, bad := ofKind(1), ofKind(2), api.Type{}
	wantAlike(t, list(), list(), true)
	wantAlike(t, list(), list(bad), false)
	wantAlike(t, list(bad), list(bad, bad), false)
	wantAlike(t, list(i, b), list(i, b), true)
	wantAlike(t, list(i, b), list(b, i), false)
	wantAlike(t, list(i, bad), list(bad, b), true)
	wantAlike(t, list(i, bad), list(b, bad), false)
	wantAlike(t, list(i, list(bad, b)), list(bad, list(i, b)), true)
	wantAlike(t, list(i, list(bad, b)), list(bad, list(i, i)), false)
	// A KBad stays one, whatever it has; names of parameters and what a Kind does not use change nothing.
	wantAlike(t, api.Type{Kind: 0, Pkg: "a", Name: "T", N: 3, Args: []api.Type{i}}, i, true)
	wantAlike(t, api.Type{Kind: 6, N: 2, Name: "P"}, api.Type{Kind: 6, N: 2, Name: "Q", Args: []api.Type{i}}, true)
	wantAlike(t, api.Type{Kind: 5, Pkg: "a", Name: "T", N: 3, Args: []api.Type{i}}, list(i), true)
	wantAlike(t, api.Type{Kind: 1, Pkg: "a", Name: "T", N: 3, Args: []api.Type{i}}, i, true)
	for _, kind := range unknown() {
		odd := func(args ...api.Type) api.Type { return api.Type{Kind: kind, Pkg: "p", Name: "n", N: 4, Args: args} }
		wantAlike(t, odd(), odd(), true)
		wantAlike(t, odd(), ofKind(kind), false)
		wantAlike(t, odd(), bad, true)
		wantAlike(t, odd(i, list(b)), odd(i, list(b)), true)
		// Only the arguments of lists are Alike: these are the Same.
		wantAlike(t, odd(i), odd(bad), false)
		wantAlike(t, odd(bad), odd(bad), true)
		wantAlike(t, list(odd(bad)), list(odd(i)), false)
		wantAlike(t, odd(list(i)), odd(list(bad)), false)
	}
}

// shapes are all types of so many levels out of few.
func shapes(levels int) []api.Type {
	all := []api.Type{{}, ofKind(1), ofKind(7), named("a", "T"), {Kind: 6, N: 1, Name: "P"}, {Kind: 6, N: 1, Name: "Q"}, ofKind(8)}
	if levels == 0 {
		return all
	}
	inner := shapes(levels - 1)
	all = append(all, list(), api.Type{Kind: 8, Args: []api.Type{{}}})
	for i, x := range inner {
		all = append(all, list(x), api.Type{Kind: 8, Args: []api.Type{x}})
		for k := i % 3; k < len(inner); k += 3 {
			all = append(all, list(x, inner[k]))
		}
	}
	return all
}

// P11.3, P11.4: all pairs of types out of few.
func TestAlikeAll(t *testing.T) {
	few := shapes(2)
	for i, a := range few {
		for k := i % 5; k < len(few); k += 5 {
			b := few[k]
			want := modelAlike(a, b)
			if sets.Alike(a, b) != want || sets.Alike(b, a) != want || sets.Assign(api.Scope{}, a, b) != (want && a.Kind != 7 && b.Kind != 7) {
				t.Fatalf("Alike(%s, %s): %v, %v; want %v", told(a), told(b), sets.Alike(a, b), sets.Alike(b, a), want)
			}
			if sets.Meets(api.Scope{}, a, b) {
				t.Fatalf("Meets(%s, %s)", told(a), told(b))
			}
		}
	}
	if len(few) < 200 {
		t.Errorf("too few: %d", len(few))
	}
}

// P11.3: what a type has, next to what an interface asks for.
func TestMeets(t *testing.T) {
	for _, x := range []struct {
		has, asked string // methods
		want       bool
	}{
		{"", "", true}, {"m()none", "", true}, {"", "m()none", false}, {"m()none", "m()none", true}, {"n()none", "m()none", false}, {"M()none", "m()none", false},
		{"m()none n()int", "m()none", true}, {"n()int m()none", "m()none n()int", true}, {"m()none", "m()none n()int", false}, {"n()int", "m()none n()int", false}, {"m()int n()none", "m()none n()int", false},
		{"m()none", "m()int", false}, {"m()int", "m()none", false}, {"m()int", "m()bool", false}, {"m()a.T", "m()a.I", false}, {"m()a.I", "m()a.T", false}, {"m(a.T)int", "m(a.I)int", false},
		{"m()?", "m()none", true}, {"m()none", "m()?", true}, {"m()[]?", "m()[]int", true}, {"m()[]?", "m()int", false}, {"m()int", "m()?", true}, {"m()?", "m()?", true},
		{"m(int)int", "m(int)int", true}, {"m(int)int", "m()int", false}, {"m()int", "m(int)int", false}, {"m(int)int", "m(bool)int", false}, {"m(?)int", "m(bool)int", true}, {"m(bool)int", "m(?)int", true}, {"m(?)int", "m()int", false}, {"m()int", "m(?)int", false},
		{"m(int,bool)int", "m(int,bool)int", true}, {"m(int,bool)int", "m(bool,int)int", false}, {"m(int,bool)int", "m(int)int", false}, {"m(int)int", "m(int,bool)int", false}, {"m(int,bool)int", "m(?,bool)int", true}, {"m(int,bool)int", "m(int,int)int", false}, {"m(int,?,text)?", "m(?,[]a.T,text)int", true}, {"m(int,?,text)?", "m(?,[]a.T,bool)int", false},
		{"m(P0)P1", "m(P0)P1", true}, {"m(P0)P1", "m(P1)P1", false}, {"m(P0)P1", "m(P0)P0", false}, {"m(none)int", "m(none)int", true},
		// Of several methods of the name the first one counts; each one that is asked for does.
		{"m()int m()bool", "m()int", true}, {"m()bool m()int", "m()int", false}, {"m()int n()int m()bool", "n()int m()int", true}, {"m()int", "m()int m()int", true}, {"m()int", "m()int m()bool", false}, {"m()int", "m()bool m()int", false}, {"m()int m()bool", "m()int m()bool", false}, {"m()?", "m()int m()bool", true}, {"m()int", "m()int m()?", true},
	} {
		has, asked := strings.Fields(x.has), strings.Fields(x.asked)
		s := bounded(scope(pack("a", structOf("T", append([]string{"m int", "n bool"}, has...)...), ifaceOf("I", asked...), ifaceOf("K", has...), structOf("S", asked...), structOf("F", "m()none"))), "a.K", "a.T")
		for _, y := range []api.Type{typed("a.T"), typed("a.K"), param(0)} {
			wantMeets(t, s, y, typed("a.I"), x.want)
			wantAssign(t, s, y, typed("a.I"), x.want)
			// A struct asks for nothing, and nor does a parameter.
			wantMeets(t, s, y, typed("a.S"), false)
			wantMeets(t, bounded(s, "a.I"), y, param(2), false)
		}
		none := x.asked == ""
		for _, text := range []string{"a.U", "b.T", "int", "bool", "text", "?", "none", "[]a.T", "[]a.K", "P1", "P2", "P3"} {
			wantMeets(t, s, typed(text), typed("a.I"), none)
			wantAssign(t, s, typed(text), typed("a.I"), text == "?" || none && text != "none")
			wantMeets(t, s, typed("a.T"), typed(text), false)
		}
	}
}

// P11.3: where the interface is, and where what meets it is.
func TestMeetsAcross(t *testing.T) {
	s := scope(pack("a", structOf("T", "m()b.I"), ifaceOf("I", "m()int")), pack("b", structOf("T", "m()int"), ifaceOf("I", "m()b.I")), pack("a", ifaceOf("J")), pack("", ifaceOf("E")))
	wantMeets(t, s, typed("a.T"), typed("b.I"), true)
	wantMeets(t, s, typed("a.T"), typed("a.I"), false)
	wantMeets(t, s, typed("b.T"), typed("a.I"), true)
	wantMeets(t, s, typed("b.T"), typed("b.I"), false)
	wantMeets(t, s, typed("a.T"), typed("a.J"), false)
	wantMeets(t, s, typed("a.T"), typed(".E"), true)
	wantMeets(t, s, typed("a.T"), typed("c.E"), false)
	for _, kind := range append(unknown(), 0, 1, 2, 3, 5, 6, 7) {
		wantMeets(t, s, typed("a.T"), api.Type{Kind: kind, Pkg: "b", Name: "I"}, false)
		wantMeets(t, s, api.Type{Kind: kind, Pkg: "a", Name: "T"}, typed("b.I"), false)
		wantMeets(t, s, api.Type{Kind: kind, Pkg: "a", Name: "T"}, typed(".E"), true)
		wantAssign(t, s, api.Type{Kind: kind, Pkg: "a", Name: "T"}, typed(".E"), kind != 7)
		wantAssign(t, s, typed(".E"), api.Type{Kind: kind}, kind == 0)
	}
}

// P11.4: none is assignable nowhere and from nowhere; else what is Alike, or meets.
func TestAssign(t *testing.T) {
	s := bounded(scope(pack("a", structOf("T", "m()int"), ifaceOf("I", "m()int"), ifaceOf("E"), structOf("S"))), "a.I", "a.E", "a.T")
	all := []string{"?", "int", "bool", "text", "none", "a.T", "a.I", "a.E", "a.S", "a.X", "b.T", "P0", "P1", "P2", "P3", "[]?", "[]int", "[]a.T", "[]a.I", "[][]?", "[]none"}
	more := map[string]string{"a.T": "a.I", "a.I": "", "P0": "a.I", "[]?": "[]int []a.T []a.I [][]? []none", "[]int": "[]?", "[]a.T": "[]?", "[]a.I": "[]?", "[][]?": "[]?", "[]none": "[]?"}
	for _, from := range all {
		for _, to := range all {
			fits := strings.Fields(more[from])
			want := from == to || from == "?" || to == "?" || to == "a.E" || slices.Contains(fits, to)
			wantAssign(t, s, typed(from), typed(to), want && from != "none" && to != "none")
		}
	}
	odd := api.Type{Kind: 7, Pkg: "a", Name: "T", N: 1, Args: []api.Type{{}}}
	for _, text := range all {
		wantAssign(t, s, odd, typed(text), false)
		wantAssign(t, s, typed(text), odd, false)
	}
	wantAssign(t, s, odd, odd, false)
}

// P11.3: all pairs of types with up to two methods out of these.
func TestMeetsAll(t *testing.T) {
	few := []string{"m()none", "m()int", "m(int)none", "n()none", "m()?", "n(?)[]int", "n(bool)[]?", "m(?,int)none", "m(int,?)none"}
	var all [][]string
	for i, one := range few {
		all = append(all, []string{one})
		for _, two := range few[i%2:] {
			all = append(all, []string{one, two}, []string{two, one})
		}
	}
	all = append(all, nil)
	met := map[bool]int{}
	for _, has := range all {
		for _, asked := range all {
			s := bounded(scope(pack("a", structOf("T", has...), ifaceOf("I", asked...), ifaceOf("K", has...))), "a.K")
			got := sets.Meets(s, typed("a.T"), typed("a.I"))
			met[got]++
			for _, text := range []string{"a.T", "a.K", "P0"} {
				wantMeets(t, s, typed(text), typed("a.I"), got)
			}
		}
	}
	if met[true] < 1000 || met[false] < 1000 {
		t.Errorf("too few: %v", met)
	}
}

// P11.3, P11.4, R1: types of many levels.
func TestDeep(t *testing.T) {
	const levels = 1 << 16
	deep := func(x api.Type) api.Type {
		for range levels {
			x = list(x)
		}
		return x
	}
	i, b, bad := deep(ofKind(1)), deep(ofKind(2)), deep(api.Type{})
	for _, x := range []struct {
		a, b api.Type
		want bool
	}{{i, i, true}, {i, b, false}, {i, bad, true}, {bad, b, true}, {i, list(i), false}, {bad, list(bad), true}, {i, list(api.Type{}), true}} {
		if got := sets.Alike(x.a, x.b); got != x.want {
			t.Errorf("Alike: %v; want %v", got, x.want)
		}
		m := func(y api.Type) []api.Method { return []api.Method{{Name: "m", Params: []api.Type{y}, Result: y}} }
		s := scope(api.Iface{Pkg: "a", Types: []api.TypeDecl{{Name: "T", Struct: true, Methods: m(x.a), Fields: []api.Field{{Name: "f", T: x.a}}}, {Name: "I", Methods: m(x.b)}}})
		if got := sets.Meets(s, typed("a.T"), typed("a.I")); got != x.want {
			t.Errorf("Meets: %v; want %v", got, x.want)
		}
		if got := sets.Assign(s, x.a, x.b); got != x.want {
			t.Errorf("Assign: %v; want %v", got, x.want)
		}
		f, _ := sets.Field(s, typed("a.T"), "f")
		d, _ := sets.Find(s, typed("a.T"))
		if !term.Same(f, x.a) || !term.Same(d.Fields[0].T, x.a) || !term.Same(sets.Methods(s, typed("a.I"))[0].Result, x.b) {
			t.Error("other types")
		}
	}
}

// P11.1 to P11.3: many packages, types, fields and methods.
func TestMany(t *testing.T) {
	const n = 100000
	name := func(i int) string { return "x" + strconv.Itoa(i) }
	many, asks := api.TypeDecl{Name: "T", Struct: true}, api.TypeDecl{Name: "I"}
	s := scope()
	for i := range n {
		many.Fields = append(many.Fields, api.Field{Name: name(i), T: param(i)})
		many.Methods = append(many.Methods, api.Method{Name: name(i), Params: []api.Type{param(i)}})
		asks.Methods = append(asks.Methods, api.Method{Name: name(n - 1 - i), Params: []api.Type{param(n - 1 - i)}})
		s.W = append(s.W, pack(name(i)))
		s.Bounds = append(s.Bounds, typed("a.I"))
	}
	types := pack("a")
	for i := range n {
		types.Types = append(types.Types, structOf(name(i)))
	}
	types.Types = append(types.Types, many, asks)
	s.W = append(s.W, types)
	T, I := typed("a.T"), typed("a.I")
	if d, is := sets.Find(s, T); !is || len(d.Methods) != n || len(d.Fields) != n {
		t.Error(is, len(d.Methods))
	}
	if f, is := sets.Field(s, T, name(n-1)); !is || f.N != n-1 {
		t.Error(f, is)
	}
	if !sets.Meets(s, T, I) || !sets.Meets(s, param(n-1), I) || !sets.Assign(s, T, I) || len(sets.Methods(s, param(n-1))) != n {
		t.Error("not met")
	}
	asks.Methods[n-1].Name = "y"
	if sets.Meets(s, T, I) || !sets.Meets(s, I, I) {
		t.Error("met")
	}
}

// dice are numbers in an order that a fixed rule shuffles.
type dice uint32

func (d *dice) below(n int) int {
	*d = *d*1664525 + 1013904223
	return int(uint64(*d>>8) * uint64(n) >> 24)
}

func (d *dice) of(l ...string) string { return l[d.below(len(l))] }

// few makes a list of up to so many.
func few[T any](d *dice, most int, one func() T) []T {
	var l []T
	for range d.below(most + 1) {
		l = append(l, one())
	}
	return l
}

func (d *dice) typed(levels int) api.Type {
	x := api.Type{Kind: []int{4, 4, 4, 4, 4, 4, 6, 6, 6, 5, 5, 0, 1, 2, 3, 7, 8, -1}[d.below(18)]}
	if x.Kind == 4 || d.below(9) == 0 {
		x.Pkg, x.Name = d.of("a", "a", "a", "b", "c", ""), d.of("T", "U", "I", "J", "K")
	}
	if x.Kind == 6 || d.below(9) == 0 {
		x.N = d.below(6) - 1
	}
	if x.Kind == 5 || d.below(9) == 0 {
		for range (1 + d.below(9)/7 - d.below(9)/8) * min(levels, 1) {
			x.Args = append(x.Args, d.typed(levels-1))
		}
	}
	return x
}

// member is one of few types, so that methods are often the same.
func (d *dice) member() api.Type {
	if d.below(9) == 0 {
		return d.typed(2)
	}
	return typed(d.of("int", "int", "int", "bool", "a.T", "[]int", "?"))
}

func (d *dice) method() api.Method {
	return api.Method{Name: d.of("m", "n", "o"), Params: few(d, 1, d.member), Result: typed(d.of("none", "none", "none", "int", "?"))}
}

func (d *dice) decl() api.TypeDecl {
	return api.TypeDecl{
		Name: d.of("T", "U", "I", "J", "K"), Struct: d.below(2) == 0, Methods: few(d, 1+d.below(3), d.method),
		Fields: few(d, 3, func() api.Field { return api.Field{Name: d.of("f", "g", "m"), T: d.typed(2)} }),
	}
}

func (d *dice) iface() api.Iface {
	return api.Iface{Pkg: d.of("a", "a", "b", "c", ""), Types: append(few(d, 6, d.decl), d.decl(), d.decl())}
}

func (d *dice) scope() api.Scope {
	s := api.Scope{W: few(d, 4, d.iface), Bounds: few(d, 4, func() api.Type { return d.typed(1) })}
	if d.below(9) > 0 {
		s.W = append(s.W, d.iface())
		s.W[0].Pkg = "a"
	}
	s.Imports, s.Names = []string{d.of("a", "b")}, []string{d.of("T", "I")}
	s.Vars = []api.Var{{Name: "f", T: d.typed(1), At: d.below(9)}}
	return s
}

// P11.1 to P11.4: grown scopes and types.
func TestGrown(t *testing.T) {
	d := dice(1)
	met := map[string]int{}
	count := func(key string, is bool) {
		if is {
			met[key]++
		}
	}
	for range 20000 {
		s := d.scope()
		for range 16 {
			x, y := d.typed(2), d.typed(2)
			against(t, s, x)
			field, has := modelField(s, x, "f")
			wantField(t, s, x, "f", field, has)
			wantAlike(t, x, y, modelAlike(x, y))
			wantMeets(t, s, x, y, modelMeets(s, x, y))
			wantAssign(t, s, x, y, modelAssign(s, x, y))
			count("find", sets.Iface(s, x))
			count("field", has)
			count("param", x.Kind == 6 && len(modelMethods(s, x)) > 0)
			count("alike", x.Kind != 0 && y.Kind != 0 && modelAlike(x, y))
			count("meets", modelMeets(s, x, y) && len(modelMethods(s, y)) > 0)
			count("fails", !modelMeets(s, x, y) && modelIface(s, y) && len(modelMethods(s, x)) > 0)
		}
	}
	for _, key := range []string{"find", "field", "param", "alike", "meets", "fails"} {
		if met[key] < 300 {
			t.Errorf("too few of %s: %d", key, met[key])
		}
	}
}

// made makes each KBad in a value another type.
func made(x reflect.Value) {
	if y, is := x.Addr().Interface().(*api.Type); is && y.Kind == 0 {
		y.Kind = 3
	}
	switch x.Kind() {
	case reflect.Struct:
		for i := range x.NumField() {
			made(x.Field(i))
		}
	case reflect.Slice:
		for i := range x.Len() {
			made(x.Index(i))
		}
	}
}

// P11.5: who meets an interface meets those that it meets; one without methods is met by all, and one with a name no more than once by itself.
func TestMeetsOn(t *testing.T) {
	d := dice(3)
	on, itself := 0, 0
	for range 1500 {
		s := d.scope()
		made(reflect.ValueOf(&s).Elem())
		s.W = append(s.W, pack("d", ifaceOf("E")))
		var all []api.Type
		for _, text := range []string{"a.T", "a.U", "a.I", "a.J", "a.K", "b.T", "b.I", "b.J", "P0", "P1", "d.E", "int", "none"} {
			all = append(all, typed(text))
		}
		for _, x := range all {
			if !sets.Meets(s, x, typed("d.E")) {
				t.Fatalf("%s: %s", told(s), told(x))
			}
			names := map[string]bool{}
			for _, m := range sets.Methods(s, x) {
				names[m.Name] = true
			}
			if sets.Iface(s, x) && len(names) == len(sets.Methods(s, x)) {
				itself += len(names)
				wantMeets(t, s, x, x, true)
			}
			for _, i := range all {
				for _, k := range all {
					if sets.Meets(s, x, i) && sets.Meets(s, i, k) {
						on += len(sets.Methods(s, k))
						wantMeets(t, s, x, k, true)
					}
				}
			}
		}
	}
	if on < 1000 || itself < 1000 {
		t.Errorf("too few: %d on, %d itself", on, itself)
	}
	// With a KBad between them they need not.
	s := scope(pack("a", structOf("T", "m()int"), ifaceOf("I", "m()?"), ifaceOf("J", "m()bool")))
	wantMeets(t, s, typed("a.T"), typed("a.I"), true)
	wantMeets(t, s, typed("a.I"), typed("a.J"), true)
	wantMeets(t, s, typed("a.T"), typed("a.J"), false)
}
