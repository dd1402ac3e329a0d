package infer_test

import (
	"fmt"
	"math"
	"slices"
	"strconv"
	"strings"
	"testing"

	"quoin/api"
	"quoin/infer"
	"quoin/sets"
	"quoin/term"
)

// unknown are numbers that are no Kind of a type.
func unknown() []int { return []int{8, 9, -1, -5, 255, 256, math.MaxInt, math.MinInt} }

func ofKind(kind int) api.Type { return api.Type{Kind: kind} }

func list(args ...api.Type) api.Type { return api.Type{Kind: 5, Args: args} }

func param(n int) api.Type { return api.Type{Kind: 6, N: n, Name: "P" + strconv.Itoa(n)} }

// typed is a type, by what package term tells of it; P0 is the parameter 0, and {int,P0} is a list of both.
func typed(text string) api.Type {
	if of, is := strings.CutPrefix(text, "[]"); is {
		return list(typed(of))
	}
	if of, is := strings.CutPrefix(text, "{"); is {
		return list(types(strings.TrimSuffix(of, "}"))...)
	}
	if pack, name, is := strings.Cut(text, "."); is {
		return api.Type{Kind: 4, Pkg: pack, Name: name}
	}
	if kind := slices.Index([]string{"?", "int", "bool", "text", "", "", "", "none"}, text); kind >= 0 && text != "" {
		return ofKind(kind)
	}
	n, err := strconv.Atoi(text[1:])
	if err != nil || text[0] != 'P' {
		panic(text)
	}
	return param(n)
}

// types are those of a text such as int,[]P0,{int,P1}.
func types(text string) []api.Type {
	var l []api.Type
	begin, inside := 0, 0
	for i, r := range text + "," {
		inside += strings.Count("{", string(r)) - strings.Count("}", string(r))
		if r == ',' && inside == 0 && text != "" {
			l, begin = append(l, typed(text[begin:i])), i+1
		}
	}
	return l
}

// function is one by a text such as [a.I](P0,[]P0)P0.
func function(text string) api.FuncDecl {
	bounds, rest, _ := strings.Cut(text, "](")
	params, result, _ := strings.Cut(rest, ")")
	return api.FuncDecl{Name: "f", Bounds: types(bounds[1:]), Params: types(params), Result: typed(result)}
}

// method is one by a text such as m(int,bool)none.
func method(text string) api.Method {
	name, rest, _ := strings.Cut(text, "(")
	params, result, _ := strings.Cut(rest, ")")
	return api.Method{Name: name, Params: types(params), Result: typed(result)}
}

func holding(name string, isStruct bool, methods []string) api.TypeDecl {
	d := api.TypeDecl{Name: name, Struct: isStruct}
	for _, text := range methods {
		d.Methods = append(d.Methods, method(text))
	}
	return d
}

func structOf(name string, methods ...string) api.TypeDecl { return holding(name, true, methods) }

func ifaceOf(name string, methods ...string) api.TypeDecl { return holding(name, false, methods) }

func pack(name string, declared ...api.TypeDecl) api.Iface {
	return api.Iface{Pkg: name, Types: declared}
}

// usual is a scope in which a.T meets a.I, and b.T meets a.J; all meet a.E; the caller's own P0 meets a.I, and its P1 a.J.
func usual() api.Scope {
	return api.Scope{
		W: []api.Iface{
			pack("a", structOf("T", "m()int"), ifaceOf("I", "m()int"), ifaceOf("J", "n(a.T)none"), ifaceOf("E"), structOf("S")),
			pack("b", structOf("T", "n(a.T)none"), ifaceOf("Both", "m()int", "n(a.T)none")),
		},
		Bounds: types("a.I,a.J"),
	}
}

// The model: each promise to the letter.

func modelUnify(params, args []api.Type, n int) []api.Type {
	if n < 1 || n > 16 {
		return nil
	}
	var inferred [16][]api.Type
	var pairwise func(l, m []api.Type)
	pairwise = func(l, m []api.Type) {
		for i := range l {
			if i >= len(m) {
				return
			}
			p, a := l[i], m[i]
			if p.Kind == 6 && p.N >= 0 && p.N <= n-1 {
				if a.Kind != 0 && a.Kind != 7 {
					inferred[p.N] = append(inferred[p.N], a)
				}
			} else if p.Kind == 5 && a.Kind == 5 {
				pairwise(p.Args, a.Args)
			}
		}
	}
	pairwise(params, args)
	var l []api.Type
	for i := range n {
		l = append(l, append(inferred[i], ofKind(0))[0])
	}
	return l
}

func modelCall(s api.Scope, f api.FuncDecl, args []api.Type) (api.Type, []api.Wrong) {
	var l []api.Wrong
	told := modelUnify(f.Params, args, len(f.Bounds))
	if len(args) != len(f.Params) {
		l = append(l, api.Wrong{Arg: -1, Code: 12})
	}
	for i, bound := range f.Bounds {
		if len(f.Bounds) <= 16 && (told[i].Kind == 0 || bound.Kind != 0 && !sets.Meets(s, told[i], bound)) {
			l = append(l, api.Wrong{Arg: -1, Code: 15})
		}
	}
	for i, a := range args {
		if i < len(f.Params) && !sets.Assign(s, a, term.Subst(f.Params[i], told)) {
			l = append(l, api.Wrong{Arg: i, Code: 11})
		}
	}
	return term.Subst(f.Result, told), l
}

// spell is a value's text, in which a list that is nil and an empty one are the same.
func spell(x any) string { return fmt.Sprintf("%+v", x) }

// told is the beginning of it.
func told(x any) string { return fmt.Sprintf("%.1500s", spell(x)) }

// wantUnify holds what is inferred against a text, if one is wanted, and against the model.
func wantUnify(t *testing.T, params, args []api.Type, n int, want []api.Type) {
	t.Helper()
	got, model := infer.Unify(params, args, n), modelUnify(params, args, n)
	if len(got) != len(want) || spell(got) != spell(want) || spell(model) != spell(want) {
		t.Fatalf("Unify(%s, %s, %d): %s; model %s; want %s", told(params), told(args), n, told(got), told(model), told(want))
	}
}

// wantCall holds a call's type and errors against these, and against the model.
func wantCall(t *testing.T, s api.Scope, f api.FuncDecl, args []api.Type, want api.Type, wrong []api.Wrong) {
	t.Helper()
	got, l := infer.Call(s, f, args)
	model, m := modelCall(s, f, args)
	if spell(got) != spell(want) || spell(model) != spell(want) || spell(l) != spell(wrong) || spell(m) != spell(wrong) {
		t.Fatalf("Call(%s, %s, %s): %s, %v; model %s, %v; want %s, %v", told(s), told(f), told(args), told(got), l, told(model), m, told(want), wrong)
	}
}

// errors are those of a text such as "count bound 1 2": the numbers are those of arguments of a wrong type.
func errors(text string) []api.Wrong {
	var l []api.Wrong
	for _, word := range strings.Fields(text) {
		switch word {
		case "count":
			l = append(l, api.Wrong{Arg: -1, Code: 12})
		case "bound":
			l = append(l, api.Wrong{Arg: -1, Code: 15})
		default:
			at, _ := strconv.Atoi(word)
			l = append(l, api.Wrong{Arg: at, Code: 11})
		}
	}
	return l
}

// The chapter's examples.
func TestExamples(t *testing.T) {
	s, f := usual(), function("[a.I](P0,[]P0)P0")
	for _, x := range []struct{ args, want, wrong string }{
		{"a.T,[]a.T", "a.T", ""},
		{"int,[]int", "int", "bound"},
		{"a.T,[]int", "a.T", "1"},
		{"a.T", "a.T", "count"},
		{"", "?", "count bound"},
	} {
		wantCall(t, s, f, types(x.args), typed(x.want), errors(x.wrong))
	}
}

// P12.1: what is inferred, and that the first one counts.
func TestUnify(t *testing.T) {
	for _, x := range []struct {
		params, args string
		want         string
	}{
		{"", "", "?"}, {"P0", "", "?"}, {"", "int", "?"}, {"P0", "int", "int"}, {"P0", "a.T", "a.T"}, {"P0,P0", "int,bool", "int"}, {"int,P0", "int,bool", "bool"}, {"int,P0", "a.T,bool", "bool"}, {"int,P0", "bool", "?"},
		// As long as both have elements.
		{"P0,P1", "int", "int,?"}, {"P0", "int,bool", "int,?"}, {"P0,P1", "int,bool,text", "int,bool"}, {"P1,P0", "int,bool", "bool,int"}, {"P0,P1,P0,P1", "int,bool,text,a.T", "int,bool"}, {"P1", "int", "?,int"},
		// What is not made out or has no value tells nothing, but what holds it does.
		{"P0", "?", "?"}, {"P0", "none", "?"}, {"P0,P0", "?,int", "int"}, {"P0,P0", "none,int", "int"}, {"P0,P0", "int,?", "int"}, {"P0,P0", "int,none", "int"}, {"P0,P0,P0", "?,none,bool", "bool"}, {"P0,P0,P0,P0", "?,bool,none,int", "bool"},
		{"P0", "[]?", "[]?"}, {"P0", "[]none", "[]none"}, {"P0,P0", "[]?,[]int", "[]?"}, {"[]P0", "[]?", "?"}, {"[]P0", "[]none", "?"}, {"[]P0,P0", "[]?,int", "int"},
		// Lists.
		{"[]P0", "[]int", "int"}, {"[][]P0", "[][]int", "int"}, {"[]P0", "[][]int", "[]int"}, {"[][]P0", "[]int", "?"}, {"[]P0", "int", "?"}, {"P0", "[]int", "[]int"}, {"[]int", "[]int", "?"}, {"int", "[]P0", "?"}, {"[]P0", "P0", "?"}, {"P0", "[]P0", "[]P0"}, {"[]P0,P0", "[]int,bool", "int"}, {"P0,[]P0", "bool,[]int", "bool"}, {"[]P0,P0", "int,bool", "bool"}, {"[]P0,P0", "?,bool", "bool"}, {"[]P1,[][]P0", "[]int,[][]bool", "bool,int"},
		{"{P0,P1}", "{int,bool}", "int,bool"}, {"{P0,P1}", "{int}", "int,?"}, {"{P0}", "{int,bool}", "int,?"}, {"{}", "{int}", "?"}, {"{P0}", "{}", "?"}, {"{},P0", "{int},bool", "bool"}, {"{P0},P1", "{},bool", "?,bool"}, {"{P0,{P1,P0},P2}", "{?,{int,bool},text}", "bool,int,text"}, {"{P0,P1},P1,P0", "{int},bool,text", "int,bool"}, {"{{P0,P1},P1},P2", "{{int,bool},text},a.T", "int,bool,a.T"}, {"{[]P0,P0}", "{int,bool}", "bool"},
		// What arguments have of parameters is not looked into.
		{"P0", "P0", "P0"}, {"P0", "P1", "P1"}, {"P0,P1", "P1,P0", "P1,P0"}, {"P0,P1", "[]P1,int", "[]P1,int"}, {"int", "P0", "?"}, {"[]P0", "[]P5", "P5"},
		// What stands for nothing.
		{"P0,P1", "int,bool", "int"}, {"P1,P0", "int,bool", "bool"}, {"P1", "int", "?"}, {"P15,P16,P17", "int,bool,text", "?,?"}, {"a.T", "int", "?"}, {"a.P0", "int", "?"}, {"text,bool,?,none", "int,int,int,int", "?"}, {"none,P0", "none,int", "int"}, {"?,P0", "int,bool", "bool"},
	} {
		want := types(x.want)
		wantUnify(t, types(x.params), types(x.args), len(want), want)
	}
}

// P12.1: how many types there are, and which numbers of parameters count.
func TestUnifyNumbers(t *testing.T) {
	args := types("int,bool,[]text")
	for _, n := range []int{0, -1, -16, 17, 18, 100, math.MaxInt, math.MinInt, 1 << 32, 1<<32 + 1, -1 << 32} {
		wantUnify(t, types("P0,P1,[]P2"), args, n, nil)
		wantUnify(t, nil, nil, n, nil)
	}
	for n := 1; n <= 16; n++ {
		var params, different, want []api.Type
		for i := range 20 {
			p := (i*7 + n) % 20
			params, different = append(params, param(p)), append(different, list(param(100+p)))
			if i < n {
				want = append(want, list(param(100+i)))
			}
		}
		wantUnify(t, params, different, n, want)
		wantUnify(t, nil, different, n, make([]api.Type, n))
		for _, no := range []int{-1, -2, n, n + 1, 16, 17, -n, n + 1<<32, -1 << 32, 1 << 32, math.MaxInt, math.MinInt} {
			p := param(no)
			wantUnify(t, []api.Type{p, param(n - 1), p}, args[:1], n, make([]api.Type, n))
			want := make([]api.Type, n)
			want[n-1] = ofKind(2)
			wantUnify(t, []api.Type{p, param(n - 1), list(p)}, args, n, want)
			// It is no list, whatever it has.
			p.Args = []api.Type{param(n - 1)}
			wantUnify(t, []api.Type{p}, args[2:], n, make([]api.Type, n))
		}
	}
}

// P12.1, R1: types that no other layer makes: only the Kind tells what a type is, and it is inferred with all that it has.
func TestUnifyOdd(t *testing.T) {
	x := api.Type{Kind: 1, Pkg: "a", Name: "T", N: 7, Args: types("int,P0")}
	for _, kind := range append(unknown(), 0, 1, 2, 3, 4, 5, 6, 7) {
		x.Kind = kind
		want := []api.Type{x}
		if kind == 0 || kind == 7 {
			want[0] = api.Type{}
		}
		odd := param(0)
		odd.Pkg, odd.Name, odd.Args = "a", "\xff", types("P0,[]P0")
		for _, p := range []api.Type{param(0), {Kind: 6}, odd} {
			wantUnify(t, []api.Type{p}, []api.Type{x}, 1, want)
			wantUnify(t, []api.Type{list(p)}, []api.Type{list(x)}, 1, want)
			wantUnify(t, []api.Type{list(ofKind(0), p)}, []api.Type{list(p, x)}, 1, want)
		}
		// A parameter of another Kind tells nothing; that a list has other fields changes nothing.
		y := api.Type{Kind: kind, Pkg: "a", Name: "P0", Args: types("P0")}
		want = make([]api.Type, 1)
		if kind == 5 {
			want[0] = typed("bool")
		} else if kind == 6 {
			want[0] = typed("{bool,int}")
		}
		wantUnify(t, []api.Type{y}, types("{bool,int}"), 1, want)
		// Nor is an argument of another Kind a list.
		z := api.Type{Kind: kind, N: 3, Args: types("bool")}
		want = make([]api.Type, 1)
		if kind == 5 {
			want[0] = typed("bool")
		}
		wantUnify(t, types("[]P0"), []api.Type{z}, 1, want)
	}
}

// lists are all lists of up to so many of these.
func lists(of []api.Type, most int) [][]api.Type {
	all := [][]api.Type{nil}
	for i := 0; i < len(all); i++ {
		for _, x := range of {
			if len(all[i]) < most {
				all = append(all, append(slices.Clone(all[i]), x))
			}
		}
	}
	return all
}

// P12.1: all lists of up to three parameters and arguments out of few, and all lists of these.
func TestUnifyAll(t *testing.T) {
	params, args := lists(types("P0,P1,P2,int,[]P0,[]P1"), 3), lists(types("int,?,none,[]bool,[]?"), 3)
	for _, p := range params {
		for _, a := range args {
			for n := range 4 {
				want := modelUnify(p, a, n)
				wantUnify(t, p, a, n, want)
				if n == 2 {
					wantUnify(t, []api.Type{list(p...), param(0)}, []api.Type{list(a...), typed("text")}, n, modelUnify(append(slices.Clone(p[:min(len(p), len(a))]), param(0)), append(slices.Clone(a[:min(len(p), len(a))]), typed("text")), n))
				}
			}
		}
	}
}

// P12.2: a call's type.
func TestCallResult(t *testing.T) {
	s := usual()
	for _, x := range []struct{ f, args, want, wrong string }{
		{"[]()int", "", "int", ""}, {"[]()none", "", "none", ""}, {"[]()?", "", "?", ""}, {"[]()a.T", "", "a.T", ""}, {"[]()[]a.T", "", "[]a.T", ""},
		{"[a.E](P0)P0", "int", "int", ""}, {"[a.E](P0)[]P0", "int", "[]int", ""}, {"[a.E]([]P0)P0", "[][]int", "[]int", ""}, {"[a.E](P0)int", "bool", "int", ""}, {"[a.E,a.E](P0,P1)P1", "int,bool", "bool", ""}, {"[a.E,a.E](P1,P0)P1", "int,bool", "int", ""}, {"[a.E,a.E](P0,P1){P1,[]P0,P1}", "int,bool", "{bool,[]int,bool}", ""},
		// A parameter of the caller is one of another function.
		{"[a.E,a.E](P0,P1){P0,P1}", "P1,P0", "{P1,P0}", ""}, {"[a.E,a.E](P0,P1)P0", "[]P1,int", "[]P1", ""}, {"[a.E](P0)P1", "int", "P1", ""}, {"[a.E](P0){P0,P1,P2}", "P2", "{P2,P1,P2}", ""}, {"[](int)P0", "int", "P0", ""},
		// What was not inferred is not made out, wherever it is.
		{"[a.E](int)P0", "int", "?", "bound"}, {"[a.E](int)[]P0", "int", "[]?", "bound"}, {"[a.E](int)int", "int", "int", "bound"}, {"[a.E,a.E](P1){P0,P1}", "int", "{?,int}", "bound"}, {"[a.E]()P0", "", "?", "bound"},
		// Whatever is wrong, the type is told.
		{"[]()int", "int", "int", "count"}, {"[](bool)a.T", "int", "a.T", "0"}, {"[a.I](P0)[]P0", "int", "[]int", "bound"}, {"[a.E](P0,P0)P0", "int,bool", "int", "1"}, {"[a.E](P0,P1)P0", "int,bool,int", "int", "count 1"},
	} {
		wantCall(t, s, function(x.f), types(x.args), typed(x.want), errors(x.wrong))
	}
}

// P12.2: how many arguments there are, and those of another type than wanted.
func TestCallArguments(t *testing.T) {
	s := usual()
	for _, x := range []struct{ params, args, wrong string }{
		{"", "", ""}, {"", "int", "count"}, {"", "none,?", "count"}, {"int", "", "count"}, {"int", "int", ""}, {"int", "int,int", "count"}, {"int", "bool", "0"}, {"int", "bool,int", "count 0"}, {"int,int", "bool", "count 0"}, {"int,int", "bool,text", "0 1"}, {"int,bool", "bool,int,?", "count 0 1"}, {"int,bool,text", "int,int,text", "1"}, {"int,bool,text", "bool,bool,int", "0 2"}, {"int,bool,text,a.T", "int,bool", "count"},
		{"?", "int", ""}, {"int", "?", ""}, {"?", "?", ""}, {"none", "none", "0"}, {"int", "none", "0"}, {"none", "?", "0"}, {"?", "none", "0"}, {"none,int", "int,none", "0 1"},
		{"a.T", "a.T", ""}, {"a.T", "b.T", "0"}, {"a.I", "a.T", ""}, {"a.T", "a.I", "0"}, {"a.J", "a.T", "0"}, {"a.J", "b.T", ""}, {"a.I", "a.I", ""}, {"a.E", "int", ""}, {"a.E", "none", "0"}, {"a.I", "b.Both", ""}, {"b.Both", "a.I", "0"}, {"[]a.I", "[]a.T", "0"}, {"[]a.T", "[]a.T", ""}, {"[]?", "[]int", ""}, {"[]int", "[]?", ""}, {"[]int", "[][]?", "0"}, {"c.T", "c.T", ""}, {"c.T", "a.T", "0"},
		// Those of the caller: without bounds, there is none of the function.
		{"P0", "P0", ""}, {"P0", "P1", "0"}, {"P0", "int", "0"}, {"a.I", "P0", ""}, {"a.J", "P0", "0"}, {"a.J", "P1", ""}, {"b.Both", "P0", "0"}, {"a.E", "P2", ""}, {"[]P0", "[]P0", ""}, {"[]P0", "[]int", "0"},
	} {
		for _, result := range []string{"int", "none", "?", "P0", "[]a.T"} {
			wantCall(t, s, function("[]("+x.params+")"+result), types(x.args), typed(result), errors(x.wrong))
		}
		// A bound that is no one's business changes nothing but that it is told.
		f := function("[a.E](" + x.params + ")int")
		if !strings.Contains(x.params, "P0") {
			wantCall(t, s, f, types(x.args), ofKind(1), errors(strings.Join(slices.Insert(strings.Fields(x.wrong), strings.Count(x.wrong, "count"), "bound"), " ")))
		}
	}
}

// P12.2: arguments against the types that were inferred.
func TestCallInferred(t *testing.T) {
	s := usual()
	for _, x := range []struct{ f, args, wrong string }{
		{"[a.E](P0,P0)int", "int,int", ""}, {"[a.E](P0,P0)int", "int,bool", "1"}, {"[a.E](P0,[]P0)int", "int,[]int", ""}, {"[a.E](P0,[]P0)int", "int,[]bool", "1"}, {"[a.E]([]P0,P0)int", "[]int,bool", "1"}, {"[a.E]([]P0,P0)int", "int,bool", "0"}, {"[a.E](P0,[]P0)int", "int,int", "1"}, {"[a.E](P0,P0,P0)int", "int,bool,text", "1 2"},
		// The first one counts, even where a later one would fit all.
		{"[a.E](P0,P0)int", "a.T,a.I", "1"}, {"[a.E](P0,P0)int", "a.I,a.T", ""}, {"[a.E]([]P0,P0)int", "[]a.I,a.T", ""}, {"[a.E](P0,P0)int", "[]?,[]int", ""}, {"[a.E](P0,P0)int", "[]int,[]?", ""}, {"[a.E](P0,P0,P0)int", "[]?,[]int,[]bool", ""}, {"[a.E](P0,P0,P0)int", "[]int,[]?,[]bool", "2"},
		// What is not made out fits, and what has no value does not.
		{"[a.E](P0,P0)int", "?,int", ""}, {"[a.E](P0,P0)int", "int,?", ""}, {"[a.E](P0,P0)int", "none,int", "0"}, {"[a.E](P0,P0)int", "int,none", "1"}, {"[a.E](P0)int", "?", "bound"}, {"[a.E](P0)int", "none", "bound 0"}, {"[a.E]([]P0)int", "[]?", "bound"}, {"[a.E]([]P0)int", "?", "bound"}, {"[a.E]([]P0)int", "[]none", "bound"}, {"[a.E]([]P0)int", "int", "bound 0"}, {"[a.E]([]P0)int", "none", "bound 0"}, {"[a.E](P0,[]P0)int", "?,[]none", "bound"},
		{"[a.E](P0,P1)int", "int,int", "1"}, {"[a.E](P0,P1)int", "int,P1", ""}, {"[a.E](P0,P1)int", "P1,P0", "1"}, {"[a.E,a.E](P0,P1)int", "P1,P0", ""}, {"[a.E](P0,P0)int", "P0,P0", ""}, {"[a.E](P0,P0)int", "P0,P1", "1"}, {"[a.E](P0,P0)int", "a.I,P0", ""}, {"[a.E](P0,P0)int", "P0,a.I", "1"}, {"[a.E](P0,a.I)int", "int,P0", ""},
		{"[a.E]({P0,P1})int", "{int,P1}", ""}, {"[a.E]({P0,P0})int", "{int,int}", ""}, {"[a.E]({P0,P0})int", "{int,bool}", "0"}, {"[a.E]({P0,P0})int", "{int}", "0"}, {"[a.E]({P0,P0})int", "{}", "bound 0"},
	} {
		wantCall(t, s, function(x.f), types(x.args), ofKind(1), errors(x.wrong))
	}
}

// P12.2: bounds that are met, that are not, and that are none.
func TestCallBounds(t *testing.T) {
	s := usual()
	for _, x := range []struct{ f, args, wrong string }{
		{"[a.I](P0)int", "a.T", ""}, {"[a.I](P0)int", "b.T", "bound"}, {"[a.J](P0)int", "b.T", ""}, {"[a.I](P0)int", "a.I", ""}, {"[a.J](P0)int", "a.I", "bound"}, {"[a.I](P0)int", "b.Both", ""}, {"[b.Both](P0)int", "a.I", "bound"}, {"[a.I](P0)int", "int", "bound"}, {"[a.I](P0)int", "[]a.T", "bound"}, {"[a.I]([]P0)int", "[]a.T", ""}, {"[a.E](P0)int", "int", ""}, {"[a.E](P0)int", "[]?", ""}, {"[a.I](P0)int", "[]?", "bound"},
		// Parameters of the caller have their bounds' methods.
		{"[a.I](P0)int", "P0", ""}, {"[a.J](P0)int", "P0", "bound"}, {"[a.J](P0)int", "P1", ""}, {"[a.I](P0)int", "P2", "bound"}, {"[a.E](P0)int", "P2", ""}, {"[a.J,a.I](P0,P1)int", "P1,P0", ""}, {"[a.I,a.J](P0,P1)int", "P1,P0", "bound bound"},
		// No bound at all: nothing meets what is no interface; one that is not made out is met by all that is inferred.
		{"[a.T](P0)int", "a.T", "bound"}, {"[a.S](P0)int", "a.T", "bound"}, {"[a.X](P0)int", "a.T", "bound"}, {"[c.I](P0)int", "a.T", "bound"}, {"[int](P0)int", "int", "bound"}, {"[none](P0)int", "int", "bound"}, {"[[]a.I](P0)int", "[]a.I", "bound"}, {"[[]?](P0)int", "int", "bound"}, {"[P0](P0)int", "P0", "bound"}, {"[P0](P0)int", "a.I", "bound"}, {"[a.I,P0](P0,P1)int", "a.T,a.T", "bound"}, {"[P1,a.I](P0,P1)int", "a.T,a.T", "bound"},
		{"[?](P0)int", "int", ""}, {"[?](P0)int", "a.T", ""}, {"[?](P0)int", "?", "bound"}, {"[?](P0)int", "none", "bound 0"}, {"[?](int)int", "int", "bound"}, {"[?](P0)int", "", "count bound"}, {"[?,a.I](P0,P1)int", "int,int", "bound"},
		// One error a bound, in order.
		{"[a.I,a.I](P0,P1)int", "a.T,int", "bound"}, {"[a.I,a.I](P0,P1)int", "int,a.T", "bound"}, {"[a.I,a.I](P0,P1)int", "int,int", "bound bound"}, {"[a.I,a.I](P0,P1)int", "a.T,a.T", ""}, {"[a.I,a.E,a.I](P0,P1,P2)int", "int,int,int", "bound bound"}, {"[a.I,a.J](P1,P0)int", "b.T,a.T", ""}, {"[a.I,a.J](P1,P0)int", "a.T,b.T", "bound bound"}, {"[a.I,a.I,a.I](P0)int", "a.T", "bound bound"}, {"[a.I,a.I]()int", "", "bound bound"},
		// Behind the number of arguments, ahead of these.
		{"[a.I](P0,bool)int", "int,int", "bound 1"}, {"[a.I](bool,P0,P0)int", "int,int,bool,int", "count bound 0 2"}, {"[a.I,a.I](bool,P0)int", "int,int,bool", "count bound bound 0"},
	} {
		wantCall(t, s, function(x.f), types(x.args), ofKind(1), errors(x.wrong))
	}
	for _, kind := range unknown() {
		f := function("[a.E](P0,P0)P0")
		x := api.Type{Kind: kind, Pkg: "a", Name: "T"}
		wantCall(t, s, f, []api.Type{x, x}, x, nil)
		f.Bounds = []api.Type{x}
		wantCall(t, s, f, types("int,int"), ofKind(1), errors("bound"))
		f.Bounds = []api.Type{{Kind: 0, Pkg: "a", Name: "I", N: 1, Args: types("int")}}
		wantCall(t, s, f, types("int,int"), ofKind(1), nil)
	}
}

// P12.2: the sixteen bounds that there may be, and more.
func TestCallManyBounds(t *testing.T) {
	s := usual()
	for n := range 20 {
		f := api.FuncDecl{Result: list(param(0), param(max(n, 1)-1), param(n))}
		var args, params []api.Type
		for i := range n {
			f.Bounds, f.Params = append(f.Bounds, typed("a.I")), append(f.Params, param(i))
			args, params = append(args, typed([]string{"int", "a.T"}[i%2])), append(params, param(i))
		}
		if n == 0 {
			wantCall(t, s, f, nil, f.Result, nil)
			continue
		}
		if n > 16 {
			// The parameters stay, and only themselves fit them.
			wantCall(t, s, f, args[:2], f.Result, errors("count 0 1"))
			wantCall(t, s, f, params, f.Result, nil)
			wantCall(t, s, f, append(slices.Clone(params), typed("?")), f.Result, errors("count"))
			wantCall(t, s, f, nil, f.Result, errors("count"))
			continue
		}
		wrong := strings.Repeat("bound ", (n+1)/2)
		want := list(typed("int"), typed([]string{"a.T", "int"}[n%2]), param(n))
		wantCall(t, s, f, args, want, errors(wrong))
		wantCall(t, s, f, append(slices.Clone(args), typed("?")), want, errors("count "+wrong))
		wantCall(t, s, f, nil, list(ofKind(0), ofKind(0), param(n)), errors("count "+strings.Repeat("bound ", n)))
	}
}

// P12.2: all functions of up to two bounds and parameters, and all lists of up to two arguments, out of few.
func TestCallAll(t *testing.T) {
	s := usual()
	met := map[int]int{}
	for _, bounds := range lists(types("a.I,?,a.T"), 2) {
		for _, params := range lists(types("P0,P1,a.I,[]P0,?"), 2) {
			for _, args := range lists(types("a.T,int,?,none,P0,P1,[]a.T,[]?"), 2) {
				for _, result := range types("P0,[]P1") {
					f := api.FuncDecl{Bounds: bounds, Params: params, Result: result}
					want, wrong := modelCall(s, f, args)
					wantCall(t, s, f, args, want, wrong)
					met[len(wrong)]++
				}
			}
		}
	}
	for n := range 5 {
		if met[n] < 100 {
			t.Errorf("too few: %v", met)
		}
	}
}

// P12.1, P12.2, R1: types of many levels.
func TestDeep(t *testing.T) {
	const levels = 1 << 16
	deep := func(x api.Type) api.Type {
		for range levels {
			x = list(x)
		}
		return x
	}
	p, i, b, bad := deep(param(0)), deep(ofKind(1)), deep(ofKind(2)), deep(ofKind(0))
	for _, x := range []struct {
		a, want api.Type
	}{{i, ofKind(1)}, {bad, ofKind(0)}, {list(i), typed("[]int")}, {i.Args[0], ofKind(0)}} {
		if got := infer.Unify([]api.Type{p}, []api.Type{x.a}, 1); len(got) != 1 || !term.Same(got[0], x.want) {
			t.Errorf("%s", told(got))
		}
	}
	f := api.FuncDecl{Bounds: types("a.E"), Params: []api.Type{p, param(0)}, Result: p}
	for _, x := range []struct {
		args  []api.Type
		want  api.Type
		wrong string
	}{{[]api.Type{i, ofKind(1)}, i, ""}, {[]api.Type{i, ofKind(2)}, i, "1"}, {[]api.Type{b, ofKind(2)}, b, ""}, {[]api.Type{bad, ofKind(2)}, b, ""}, {[]api.Type{i.Args[0], ofKind(2)}, b, "0"}} {
		got, wrong := infer.Call(usual(), f, x.args)
		if !term.Same(got, x.want) || spell(wrong) != spell(errors(x.wrong)) {
			t.Errorf("%v; want %s", wrong, x.wrong)
		}
	}
	f.Params, f.Result = types("P0,P0"), ofKind(7)
	if got, wrong := infer.Call(usual(), f, []api.Type{i, i}); got.Kind != 7 || len(wrong) != 0 {
		t.Error(got.Kind, wrong)
	}
	if _, wrong := infer.Call(usual(), f, []api.Type{i, b}); spell(wrong) != spell(errors("1")) {
		t.Error(wrong)
	}
	if got := infer.Unify(types("P0"), []api.Type{i}, 1); !term.Same(got[0], i) {
		t.Error("another type")
	}
}

// P12.1, P12.2, R1: many parameters, arguments, and types within a list.
func TestMany(t *testing.T) {
	const n = 200000
	var params, args, bounds []api.Type
	for i := range n {
		params, args, bounds = append(params, param(i%20)), append(args, ofKind(1)), append(bounds, typed("a.I"))
	}
	args[0], args[n-1] = ofKind(0), ofKind(2)
	want := slices.Repeat([]api.Type{ofKind(1)}, 16)
	wantUnify(t, params, args, 16, want)
	wantUnify(t, []api.Type{list(params...)}, []api.Type{list(args...)}, 16, want)
	wantUnify(t, append(slices.Repeat([]api.Type{ofKind(1)}, n), param(1)), append(args, ofKind(3)), 2, types("?,text"))
	f := api.FuncDecl{Bounds: slices.Repeat(types("a.E"), 16), Params: slices.Repeat(types("P3"), n), Result: typed("{P3,P2}")}
	wantCall(t, usual(), f, args, typed("{int,?}"), errors(strings.Repeat("bound ", 15)+strconv.Itoa(n-1)))
	wantCall(t, usual(), f, args[:n-1], typed("{int,?}"), errors("count "+strings.Repeat("bound ", 15)))
	f.Bounds = bounds
	got, wrong := infer.Call(usual(), f, args)
	if spell(got) != spell(f.Result) || len(wrong) != n-1 || wrong[0] != (api.Wrong{Arg: 1, Code: 11}) || wrong[n-2] != (api.Wrong{Arg: n - 1, Code: 11}) {
		t.Error(told(got), len(wrong))
	}
	if got := infer.Unify(params, args, n); len(got) != 0 {
		t.Error(len(got))
	}
}

// dice are numbers in an order that a fixed rule shuffles.
type dice uint32

func (d *dice) below(n int) int {
	*d = *d*1664525 + 1013904223
	return int(uint64(*d>>8) * uint64(n) >> 24)
}

func (d *dice) of(l ...string) string { return l[d.below(len(l))] }

// few makes a list of up to so many.
func few[T any](d *dice, most int, one func() T) []T {
	var l []T
	for range d.below(most + 1) {
		l = append(l, one())
	}
	return l
}

// typed makes a type, now and then one that no other layer makes.
func (d *dice) typed(levels int, kinds ...int) api.Type {
	x := api.Type{Kind: kinds[d.below(len(kinds))]}
	odd := func() bool { return d.below(20) == 0 }
	if x.Kind == 4 || odd() {
		x.Pkg, x.Name = d.of("a", "a", "a", "b", ""), d.of("T", "U", "I", "J", "E")
	}
	if x.Kind == 6 || odd() {
		x.N, x.Name = d.below(5)-d.below(9)/8, d.of("P", "Q")
	}
	if x.Kind == 5 || odd() {
		for range (1 + d.below(9)/7 - d.below(9)/8) * min(levels, 1) {
			x.Args = append(x.Args, d.typed(levels-1, kinds...))
		}
	}
	return x
}

func (d *dice) param() api.Type { return d.typed(3, 6, 6, 6, 6, 5, 5, 5, 4, 1, 0, 7, 9) }

func (d *dice) arg() api.Type { return d.typed(3, 4, 4, 4, 5, 5, 5, 1, 1, 2, 3, 6, 0, 7, -1) }

func (d *dice) bound() api.Type { return d.typed(1, 4, 4, 4, 4, 4, 4, 0, 1, 6) }

func (d *dice) method() api.Method {
	return api.Method{Name: d.of("m", "n"), Params: few(d, 1, func() api.Type { return typed(d.of("int", "?", "P0")) }), Result: typed(d.of("none", "none", "int", "?"))}
}

func (d *dice) iface() api.Iface {
	p := api.Iface{Pkg: d.of("a", "a", "b")}
	for _, name := range []string{"T", "U", "I", "J"} {
		p.Types = append(p.Types, api.TypeDecl{Name: name, Struct: d.below(3) == 0, Methods: few(d, 2, d.method)})
	}
	p.Types = append(p.Types, ifaceOf("E"))
	return p
}

func (d *dice) scope() api.Scope {
	s := api.Scope{W: few(d, 2, d.iface), Bounds: few(d, 4, d.bound)}
	s.W = append(s.W, d.iface())
	s.W[0].Pkg = "a"
	return s
}

func (d *dice) function() api.FuncDecl {
	f := api.FuncDecl{Name: d.of("f", "g"), Bounds: few(d, 3, d.bound), Params: few(d, 3, d.param), Result: d.param()}
	if d.below(3) == 0 {
		// One that is often called as it should be: its arguments tell all its types, and these keep to all bounds.
		for i := range f.Bounds {
			f.Bounds[i], f.Params = typed("a.E"), append(f.Params, list(param(i)))
		}
	}
	if d.below(20) == 0 {
		f.Bounds = slices.Repeat([]api.Type{d.bound()}, 15+d.below(4))
	}
	return f
}

// args are those for a function: mostly what its parameters are when types are put in, a little changed.
func (d *dice) args(f api.FuncDecl) []api.Type {
	put := []api.Type{d.arg(), d.arg(), d.arg(), d.arg()}
	var l []api.Type
	for _, p := range f.Params {
		x := term.Subst(p, put)
		if d.below(4) == 0 {
			x = d.arg()
		}
		l = append(l, x)
	}
	if d.below(6) == 0 {
		return append(l, d.arg())
	}
	return l[:max(0, len(l)-d.below(6)/5)]
}

// P12.1, P12.2: grown scopes, functions and arguments.
func TestGrown(t *testing.T) {
	d := dice(1)
	met := map[string]int{}
	count := func(key string, is bool) {
		if is {
			met[key]++
		}
	}
	for range 60000 {
		s, f := d.scope(), d.function()
		args := d.args(f)
		n := d.below(6)
		all := modelUnify(f.Params, args, n)
		wantUnify(t, f.Params, args, n, all)
		want, wrong := modelCall(s, f, args)
		wantCall(t, s, f, args, want, wrong)
		text := spell(wrong)
		count("right", len(wrong) == 0 && len(args) > 1 && len(f.Bounds) > 0)
		count("count", strings.Contains(text, "-1 Code:12"))
		count("bound", strings.Contains(text, "-1 Code:15"))
		count("type", strings.Contains(text, "Code:11"))
		count("put", spell(want) != spell(f.Result))
		count("many", len(f.Bounds) > 16)
		count("all", slices.IndexFunc(all, func(x api.Type) bool { return x.Kind == 0 }) < 0 && n > 1)
	}
	for _, key := range []string{"right", "count", "bound", "type", "put", "many", "all"} {
		if met[key] < 500 {
			t.Errorf("too few of %s: %d", key, met[key])
		}
	}
}

// P12.3: what is put in the place of the parameters is inferred again.
func TestUnifyBack(t *testing.T) {
	d := dice(3)
	back := 0
	for range 20000 {
		params := few(&d, 4, d.param)
		n := 1 + d.below(16)
		var put, args []api.Type
		for range n {
			x := d.typed(3, 1, 2, 3, 4, 4, 5, 5, 9)
			if len(term.Params(x)) > 0 {
				t.Fatal(told(x))
			}
			put = append(put, x)
		}
		numbers := map[int]int{}
		for _, p := range params {
			args = append(args, term.Subst(p, put))
			for part := range reached(p) {
				numbers[part.N]++
			}
		}
		got := infer.Unify(params, args, n)
		for i := range n {
			want := put[i]
			if numbers[i] == 0 {
				want = api.Type{}
			} else {
				back++
			}
			if spell(got[i]) != spell(want) {
				t.Fatalf("%s, %s: %d: %s; want %s", told(params), told(args), i, told(got[i]), told(want))
			}
		}
	}
	if back < 10000 {
		t.Errorf("too few: %d", back)
	}
}

// reached are the parameters of a type, but for those of what is neither a list nor a parameter: no type has such.
func reached(x api.Type) func(func(api.Type) bool) {
	return func(yield func(api.Type) bool) {
		if x.Kind == 6 {
			yield(x)
		} else if x.Kind == 5 {
			for _, arg := range x.Args {
				for part := range reached(arg) {
					if !yield(part) {
						return
					}
				}
			}
		}
	}
}

// P12.4: without bounds, nothing is wrong if and only if there are as many arguments as parameters, and each is assignable.
func TestCallWithoutBounds(t *testing.T) {
	d := dice(5)
	right, not := 0, 0
	for range 20000 {
		s, f := d.scope(), d.function()
		f.Bounds = nil
		args := d.args(f)
		if d.below(2) == 0 {
			args = slices.Clone(f.Params)
		}
		fits := len(args) == len(f.Params)
		for i := range min(len(args), len(f.Params)) {
			fits = fits && sets.Assign(s, args[i], f.Params[i])
		}
		got, wrong := infer.Call(s, f, args)
		if (len(wrong) == 0) != fits || spell(got) != spell(f.Result) {
			t.Fatalf("%s, %s, %s: %s, %v", told(s), told(f), told(args), told(got), wrong)
		}
		if fits && len(args) > 0 {
			right++
		} else if !fits {
			not++
		}
	}
	if right < 2000 || not < 2000 {
		t.Errorf("too few: %d right, %d not", right, not)
	}
}
