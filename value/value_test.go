package value_test

import (
	"fmt"
	"math"
	"slices"
	"strconv"
	"strings"
	"testing"

	"quoin/api"
	"quoin/exprx"
	"quoin/filex"
	"quoin/lex"
	"quoin/sig"
	"quoin/term"
	"quoin/typex"
	"quoin/value"
)

// unknown are numbers that are no Kind, neither of an expression nor of a type.
func unknown() []int { return []int{-1, -4, 11, 12, 255, 256, 1<<32 + 1, math.MaxInt, math.MinInt} }

func ofKind(kind int) api.Type { return api.Type{Kind: kind} }

func list(args ...api.Type) api.Type { return api.Type{Kind: 5, Args: args} }

func named(pack, name string) api.Type { return api.Type{Kind: 4, Pkg: pack, Name: name} }

func param(n int, name string) api.Type { return api.Type{Kind: 6, N: n, Name: name} }

// shown is what a package shows to others, by its text.
func shown(t *testing.T, text string, imports ...api.Iface) api.Iface {
	t.Helper()
	f, d := filex.Text(text)
	p, wrong := sig.Build(f, imports)
	if d.Code != 0 || len(wrong) > 0 {
		t.Fatalf("%s: %v, %v", text, d, wrong)
	}
	return p
}

// written is the type that a text means in a scope; also ? and none.
func written(t *testing.T, s api.Scope, text string) api.Type {
	t.Helper()
	if text == "none" {
		return ofKind(7)
	} else if of, is := strings.CutPrefix(text, "[]"); is {
		return list(written(t, s, of))
	} else if text == "?" {
		return ofKind(0)
	}
	l, _ := lex.All(text)
	x, _, d := typex.Parse(l, 0)
	k, wrong := sig.Type(s, x)
	if d.Code != 0 || wrong.Code != 0 {
		t.Fatalf("%s: %v, %v", text, d, wrong)
	}
	return k
}

// vars are those of a text such as x:int,y:[]a.T; the so-manieth has the At 1001 and so on.
func vars(t *testing.T, s api.Scope, text string) []api.Var {
	t.Helper()
	var l []api.Var
	for i, one := range strings.Split(text, ",") {
		name, of, _ := strings.Cut(one, ":")
		l = append(l, api.Var{Name: name, T: written(t, s, of), At: 1001 + i})
	}
	return l
}

// usual is a scope in which a.T meets a.I; all meet a.E. P is bounded by a.I, Q by a.E. The package c is visible, and not available; d is available, and not visible.
func usual(t *testing.T) api.Scope {
	t.Helper()
	b := shown(t, "package b;type U struct{n int;}func(u U)up()U{return u;}type I interface{up()U;}func f()bool{return true;}func same[P I](p P,l []P)[]P{return l;}func quiet(x int){}")
	d := shown(t, "package d;func f()int{return 1;}")
	a := shown(t, "package a;import b;type T struct{g int;next []T;u b.U;i I;}func(t T)m(x int)bool{return true;}func(t T)same(u T)T{return t;}func(t T)quiet(){}type I interface{m(int)bool;}type E interface{}type Z struct{}"+
		"func f(x int)int{return x;}func h(){}func two(x int,i I)T{return new T{};}func id[P E](p P)P{return p;}func pick[P I](p P,l []P)[]P{return l;}func make[P E]()P{return make();}func b(x bool)bool{return x;}func x()text{return \"\";}func m()int{return 1;}", b)
	s := api.Scope{W: []api.Iface{a, b, d}, Imports: []string{"b", "c", "e", "c"}}
	s.Names, s.Bounds = []string{"P", "Q"}, []api.Type{named("a", "I"), named("a", "E")}
	s.Vars = vars(t, s, "x:bool,x:int,l:[]int,t:T,u:b.U,s:text,o:bool,i:I,p:P,q:Q,bad:?,none:none,ll:[][]int,lt:[]T,e:E,lbad:[]?,lnone:[]none,z:Z")
	return s
}

// parsed is an expression, by its text.
func parsed(t *testing.T, text string) api.Expr {
	t.Helper()
	l, d := lex.All(text)
	x, next, wrong := exprx.Parse(l, 0)
	if d.Code != 0 || wrong.Code != 0 || l[next].Kind != api.TEnd {
		t.Fatalf("%q: %v, %v", text, d, wrong)
	}
	return x
}

// errors are those of a text such as "type 3 name 5".
func errors(t *testing.T, text string) []api.Diag {
	t.Helper()
	codes := map[string]int{"name": 10, "type": 11, "count": 12, "field": 13, "call": 14, "bound": 15}
	var l []api.Diag
	words := strings.Fields(text)
	for i := 0; i < len(words); i += 2 {
		at, err := strconv.Atoi(words[i+1])
		if err != nil || codes[words[i]] == 0 {
			t.Fatal(text)
		}
		l = append(l, api.Diag{At: at, Code: codes[words[i]]})
	}
	return l
}

// spelled are Uses as texts: what is used, its type, and its Def: "t.g:int=a.T.g", "x:int=x@7", "1:int".
func spelled(text string, l []api.Use) string {
	var all []string
	for _, u := range l {
		one := text[u.At:u.End] + ":" + term.Text(u.T)
		if u.Def != (api.Def{At: -1}) {
			one += "=" + strings.TrimPrefix(u.Def.Pkg+"."+u.Def.Name, ".")
		}
		if u.Def.At != -1 {
			one += "@" + strconv.Itoa(u.Def.At)
		}
		all = append(all, one)
	}
	return strings.Join(all, "  ")
}

// spell is a value's text, in which a list that is nil and an empty one are the same.
func spell(x any) string { return fmt.Sprintf("%+v", x) }

// told is the beginning of it.
func told(x any) string { return fmt.Sprintf("%.1500s", spell(x)) }

// row is an expression, and what is wanted of it; the Uses are looked at if some are told.
type row struct{ text, want, wrong, uses string }

func (r row) in(t *testing.T, s api.Scope) {
	t.Helper()
	x := parsed(t, r.text)
	k, d, u := value.Expr(s, x)
	if term.Text(k) != r.want || spell(d) != spell(errors(t, r.wrong)) {
		t.Errorf("%s: %s, %v; want %s, %s", r.text, term.Text(k), d, r.want, r.wrong)
	}
	if got := spelled(r.text, u); r.uses != "" && got != r.uses {
		t.Errorf("%s: %s; want %s", r.text, got, r.uses)
	}
	against(t, s, x)
}

func rows(t *testing.T, s api.Scope, l []row) {
	t.Helper()
	for _, r := range l {
		r.in(t, s)
	}
}

// The chapter's examples.
func TestExamples(t *testing.T) {
	s := api.Scope{W: []api.Iface{shown(t, "package a;func f(x int)int{return x;}")}}
	s.Vars = vars(t, s, "x:int")
	rows(t, s, []row{
		{`x+1<2&&true`, "bool", "", ""},
		{`x+"a"`, "?", "type 2", ""},
		{`y`, "?", "name 0", ""},
		{`!x`, "bool", "type 1", ""},
		{`f(1)+f(true)`, "int", "type 7", ""},
		{`f()`, "int", "count 2", ""},
	})
	s.Vars = vars(t, s, "x:[]int")
	rows(t, s, []row{
		{`len(x)+x[0]`, "int", "", ""},
		{`x[x]`, "int", "type 2", ""},
	})
}

// P13.1, P13.2: what is written out, names, and what is negated.
func TestSimple(t *testing.T) {
	rows(t, usual(t), []row{
		{"0", "int", "", "0:int"},
		{"999999999999999", "int", "", "999999999999999:int"},
		{`"a"`, "text", "", `"a":text`},
		{`""`, "text", "", `"":text`},
		{"true", "bool", "", "true:bool"},
		{"false", "bool", "", "false:bool"},
		{"x", "int", "", "x:int=x@1002"},
		{"t", "a.T", "", "t:a.T=t@1004"},
		{"p", "P", "", "p:P=p@1009"},
		{"bad", "?", "", "bad:?=bad@1011"},
		{"none", "none", "", "none:none=none@1012"},
		{"y", "?", "name 0", "y:?"},
		{" y", "?", "name 1", "y:?"},
		{"f", "?", "name 0", "f:?"}, // A function is no variable,
		{"b", "?", "name 0", "b:?"}, // nor is a package,
		{"T", "?", "name 0", "T:?"}, // a type,
		{"P", "?", "name 0", "P:?"}, // a type parameter,
		{"len", "?", "name 0", "len:?"},
		{"!o", "bool", "", "o:bool=o@1007  !o:bool"},
		{"!!o", "bool", "", "o:bool=o@1007  !o:bool  !!o:bool"},
		{"!x", "bool", "type 1", "x:int=x@1002  !x:bool"},
		{"!s", "bool", "type 1", ""},
		{"!l", "bool", "type 1", ""},
		{"!t", "bool", "type 1", ""},
		{"!p", "bool", "type 1", ""},
		{"!bad", "bool", "", ""},
		{"!y", "bool", "name 1", "y:?  !y:bool"},
		{"!h()", "bool", "type 1", "h:none=a.h  h():none  !h():bool"},
		{"!none", "bool", "type 1", ""},
		{"!(x==1)", "bool", "", "x:int=x@1002  1:int  x==1:bool  !(x==1):bool"},
		{"(x)", "int", "", "x:int=x@1002"},
	})
}

// P13.3: operators, by what their two operands are.
func TestOperators(t *testing.T) {
	s := usual(t)
	kinds := []struct{ text, of string }{{"1", "int"}, {"s", "text"}, {"o", "bool"}, {"bad", "?"}, {"l", "list"}, {"t", "named"}, {"p", "param"}, {"z", "empty"}}
	fitting := map[string]string{"==": "int text bool", "<": "int text", "+": "int text", "-": "int", "*": "int", "&&": "bool"}
	for op, fits := range fitting {
		for _, a := range kinds {
			for _, b := range kinds {
				truth := op == "==" || op == "<" || op == "&&"
				r := row{text: a.text + op + b.text, want: "?"}
				second := len(a.text + op)
				right := func(k string) bool { return k == "?" || strings.Contains(fits, k) }
				switch {
				case op == "&&":
					if !right(a.of) {
						r.wrong = "type 0 "
					}
					if !right(b.of) {
						r.wrong += "type " + strconv.Itoa(second)
					}
				case a.of == "?" || b.of == "?":
				case a.of != b.of || !strings.Contains(fits, a.of):
					r.wrong = "type " + strconv.Itoa(second)
				case !truth:
					r.want = a.of
				}
				if truth {
					r.want = "bool"
				}
				r.in(t, s)
			}
		}
	}
	rows(t, s, []row{
		{"x+1", "int", "", "x:int=x@1002  1:int  x+1:int"},
		{"x==o", "bool", "type 3", "x:int=x@1002  o:bool=o@1007  x==o:bool"},
		{"x-y", "?", "name 2", "x:int=x@1002  y:?  x-y:?"},
		{"y<y", "bool", "name 0 name 2", "y:?  y:?  y<y:bool"},
		{"h()+1", "?", "type 0", "h:none=a.h  h():none  1:int  h()+1:?"},
		{"1+h()", "?", "type 2", ""},
		{"h()+h()", "?", "type 0 type 4", ""},
		{"h()<1", "bool", "type 0", ""},
		{"h()==h()", "bool", "type 0 type 5", ""},
		{"h()&&1", "bool", "type 0 type 5", ""},
		{"o&&h()", "bool", "type 3", ""},
		{"1+2*s+3", "?", "type 4", ""},
		{"1+s-s", "?", "type 2", ""},
		{"l==l", "bool", "type 3", ""},
		{"p==p", "bool", "type 3", ""},
		{"(1)+(s)", "?", "type 5", "1:int  s:text=s@1006  (1)+(s):?"},
	})
}

// P13.4: fields.
func TestFields(t *testing.T) {
	rows(t, usual(t), []row{
		{"t.g", "int", "", "t:a.T=t@1004  t.g:int=a.T.g"},
		{"t.next", "[]a.T", "", "t:a.T=t@1004  t.next:[]a.T=a.T.next"},
		{"t.next[0].u.n", "int", "", "t:a.T=t@1004  t.next:[]a.T=a.T.next  0:int  t.next[0]:a.T  t.next[0].u:b.U=a.T.u  t.next[0].u.n:int=b.U.n"},
		{"t.m", "?", "field 2", "t:a.T=t@1004  t.m:?"}, // A method is no field.
		{"t.none", "?", "field 2", ""},
		{"t.none.g", "?", "field 2", "t:a.T=t@1004  t.none:?  t.none.g:?"},
		{"t .  none", "?", "field 5", ""},
		{"z.g", "?", "field 2", ""},
		{"x.g", "?", "field 2", "x:int=x@1002  x.g:?"},
		{"lt.g", "?", "field 3", ""},
		{"i.g", "?", "field 2", ""},
		{"i.m", "?", "field 2", ""},
		{"p.g", "?", "field 2", ""},
		{"bad.g", "?", "", "bad:?=bad@1011  bad.g:?"},
		{"y.g", "?", "name 0", "y:?  y.g:?"},
		{"none.g", "?", "type 0", "none:none=none@1012  none.g:?"},
		{"h().g", "?", "type 0", ""},
		{"new Z{}.g", "?", "field 8", ""},
		{"two(1,t).g", "int", "", "two:none=a.two  1:int  t:a.T=t@1004  two(1,t):a.T  two(1,t).g:int=a.T.g"},
		// What a package shows may only be called.
		{"b.f", "?", "name 2", "b.f:?"},
		{"b.none", "?", "name 2", "b.none:?"},
		{"b . none", "?", "name 4", "b . none:?"},
		{"c.f", "?", "name 2", "c.f:?"},
		{"b.f.g", "?", "name 2", "b.f:?  b.f.g:?"},
		{"b.f+1", "?", "name 2", "b.f:?  1:int  b.f+1:?"},
		{"(b).f", "?", "name 4", "(b).f:?"},
		// A package that is not visible is none, and variables and fields count ahead of packages.
		{"d.f", "?", "name 0", "d:?  d.f:?"},
		{"e.f", "?", "field 2", "e:a.E=e@1015  e.f:?"},
		{"t.b.f", "?", "field 2", "t:a.T=t@1004  t.b:?  t.b.f:?"},
	})
}

// P13.5: elements of lists.
func TestIndices(t *testing.T) {
	rows(t, usual(t), []row{
		{"l[0]", "int", "", "l:[]int=l@1003  0:int  l[0]:int"},
		{"ll[0]", "[]int", "", ""},
		{"ll[0][x]", "int", "", "ll:[][]int=ll@1013  0:int  ll[0]:[]int  x:int=x@1002  ll[0][x]:int"},
		{"lt[0].g", "int", "", ""},
		{"lbad[0]", "?", "", "lbad:[]?=lbad@1016  0:int  lbad[0]:?"},
		{"lnone[0]", "none", "", "lnone:[]none=lnone@1017  0:int  lnone[0]:none"},
		{"lnone[0][0]", "?", "type 0", ""},
		{"l[true]", "int", "type 2", ""},
		{"l[s]", "int", "type 2", ""},
		{"l[l]", "int", "type 2", ""},
		{"l[bad]", "int", "", ""},
		{"l[y]", "int", "name 2", ""},
		{"l[h()]", "int", "type 2", "l:[]int=l@1003  h:none=a.h  h():none  l[h()]:int"},
		{"s[0]", "?", "type 0", "s:text=s@1006  0:int  s[0]:?"},
		{"t[0]", "?", "type 0", ""},
		{"p[0]", "?", "type 0", ""},
		{"x[s]", "?", "type 0 type 2", ""},
		{"bad[0]", "?", "", "bad:?=bad@1011  0:int  bad[0]:?"},
		{"bad[s]", "?", "type 4", ""},
		{"y[0]", "?", "name 0", ""},
		{"y[y]", "?", "name 0 name 2", "y:?  y:?  y[y]:?"},
		{"h()[h()]", "?", "type 0 type 4", ""},
		{"new []T{}[0]", "a.T", "", ""},
	})
}

// P13.6: what is made new.
func TestNew(t *testing.T) {
	rows(t, usual(t), []row{
		{"new Z{}", "a.Z", "", "new Z{}:a.Z"},
		{"new T{1,lt,u,i}", "a.T", "", "1:int  lt:[]a.T=lt@1014  u:b.U=u@1005  i:a.I=i@1008  new T{1,lt,u,i}:a.T"},
		{"new T{1,lt,u,t}", "a.T", "", ""},
		{"new T{1,lt,u,p}", "a.T", "", ""},
		{"new T{1,lt,u,z}", "a.T", "type 13", ""},
		{"new T{s,l,t,u}", "a.T", "type 6 type 8 type 10 type 12", ""},
		{"new T{bad,lbad,bad,y}", "a.T", "name 19", ""},
		{"new T{h(),none,u,i}", "a.T", "type 6 type 10", ""},
		{"new T{}", "a.T", "count 6", ""},
		{"new T { }", "a.T", "count 8", ""},
		{"new T{s}", "a.T", "type 6 count 7", ""},
		{"new T{1,lt,u,i,h()}", "a.T", "count 18", "1:int  lt:[]a.T=lt@1014  u:b.U=u@1005  i:a.I=i@1008  h:none=a.h  h():none  new T{1,lt,u,i,h()}:a.T"},
		{"new T{1,lt,u,i,y}", "a.T", "name 15 count 16", ""},
		{"new b.U{1}", "b.U", "", "1:int  new b.U{1}:b.U"},
		{"new b.U{s}", "b.U", "type 8", ""},
		{"new []int{}", "[]int", "", "new []int{}:[]int"},
		{"new []int{1,x,l[0]}", "[]int", "", ""},
		{"new []int{s,1,o,h(),bad}", "[]int", "type 10 type 14 type 16", ""},
		{"new []I{t,i,p,z,q}", "[]a.I", "type 14 type 16", ""},
		{"new [][]int{l,lbad,ll,lnone}", "[][]int", "type 19 type 22", ""},
		{"new []E{1,t,h()}", "[]a.E", "type 12", ""},
		{"new []P{p,t,q}", "[]P", "type 10 type 12", ""},
		{"new int{}", "?", "type 4", "new int{}:?"},
		{"new bool{1}", "?", "type 4", ""},
		{"new text{y}", "?", "type 4 name 9", "y:?  new text{y}:?"},
		{"new I{}", "?", "type 4", ""},
		{"new b.I{h()}", "?", "type 4", "h:none=a.h  h():none  new b.I{h()}:?"},
		{"new P{}", "?", "type 4", ""},
		{"new  U{}", "?", "name 5", "new  U{}:?"},
		{"new U{1+s}", "?", "name 4 type 8", "1:int  s:text=s@1006  1+s:?  new U{1+s}:?"},
		{"new []U{1,y}", "[]?", "name 6 name 10", ""},
		{"new []U{h()}", "[]?", "name 6 type 8", ""},
		{"new b.T{}", "?", "name 4", ""},
		{"new d.T{}", "?", "name 4", ""},
		{"new c.T{y,h()}", "?", "name 8", "y:?  h:none=a.h  h():none  new c.T{y,h()}:?"},
		{"new []c.T{1,h()}", "[]?", "type 12", ""},
		{"new f{}", "?", "name 4", ""},
		{"new T{1,new []T{new T{}},new b.U{s},new Z{}}.g", "int", "count 22 type 33 type 36", ""},
	})
}

// P13.7: calls of functions of the own package.
func TestCallOwn(t *testing.T) {
	rows(t, usual(t), []row{
		{"f(1)", "int", "", "f:none=a.f  1:int  f(1):int"},
		{"f(s)", "int", "type 2", ""},
		{"f(bad)", "int", "", ""},
		{"f(h())", "int", "type 2", "f:none=a.f  h:none=a.h  h():none  f(h()):int"},
		{"f(none)", "int", "type 2", ""},
		{"f(y)", "int", "name 2", ""},
		{"f()", "int", "count 2", "f:none=a.f  f():int"},
		{"f ( )", "int", "count 4", ""},
		{"f(1,s)", "int", "count 5", "f:none=a.f  1:int  s:text=s@1006  f(1,s):int"},
		{"f(s,h(),y)", "int", "type 2 name 8 count 9", ""},
		{"h()", "none", "", "h:none=a.h  h():none"},
		{"h(1)", "none", "count 3", ""},
		{"f(f(f(x)))", "int", "", "f:none=a.f  f:none=a.f  f:none=a.f  x:int=x@1002  f(x):int  f(f(x)):int  f(f(f(x))):int"},
		{"two(1,t)", "a.T", "", ""},
		{"two(1,i)", "a.T", "", ""},
		{"two(1,p)", "a.T", "", ""},
		{"two(1,q)", "a.T", "type 6", ""},
		{"two(t,1)", "a.T", "type 4 type 6", ""},
		{"(f)(1)", "int", "", "f:none=a.f  1:int  (f)(1):int"},
		{"g(1)", "?", "name 0", "1:int  g(1):?"},
		{" g(y,h())", "?", "name 1 name 3", "y:?  h:none=a.h  h():none  g(y,h()):?"},
		// Type parameters.
		{"id(1)", "int", "", "id:none=a.id  1:int  id(1):int"},
		{"id(lt)", "[]a.T", "", ""},
		{"id(p)", "P", "", ""},
		{"id(bad)", "?", "bound 6", ""},
		{"id()", "?", "count 3 bound 3", ""},
		{"id(h())", "?", "type 3 bound 6", ""},
		{"id(id)", "?", "name 3 bound 5", ""},
		{"id(1,2)", "int", "count 6", ""},
		{"pick(t,lt)", "[]a.T", "", ""},
		{"pick(1,l)", "[]int", "bound 8", ""},
		{"pick(t,l)", "[]a.T", "type 7", ""},
		{"pick(p,new []P{p})", "[]P", "", ""},
		{"pick(q,new []Q{q})", "[]Q", "bound 17", ""},
		{"pick(t)[0].g", "int", "count 6", ""},
		{"make()", "?", "bound 5", ""},
		// A function counts, whatever else has its name, but for a variable.
		{"b(o)", "bool", "", "b:none=a.b  o:bool=o@1007  b(o):bool"},
		{"m()", "int", "", "m:none=a.m  m():int"},
		{"x()", "?", "call 0", "x:int=x@1002  x():?"},
		{"c()", "?", "name 0", "c():?"},
		{"T(1)", "?", "name 0", ""},
		{"P(1)", "?", "name 0", ""},
		{"up()", "?", "name 0", ""},
	})
}

// P13.7: the language's own function, unless there is another one.
func TestCallLen(t *testing.T) {
	s := usual(t)
	rows(t, s, []row{
		{"len(l)", "int", "", "l:[]int=l@1003  len(l):int"},
		{"len(s)", "int", "", ""},
		{"len(lnone)+len(lbad)", "int", "", ""},
		{"len(bad)", "int", "", "bad:?=bad@1011  len(bad):int"},
		{"len(y)", "int", "name 4", ""},
		{"len(1)", "int", "type 4", ""},
		{"len(o)", "int", "type 4", ""},
		{"len(t)", "int", "type 4", ""},
		{"len(p)", "int", "type 4", ""},
		{"len(none)", "int", "type 4", ""},
		{"len(h())", "int", "type 4", "h:none=a.h  h():none  len(h()):int"},
		{"len()", "int", "count 4", "len():int"},
		{"len( )", "int", "count 5", ""},
		{"len(l,s)", "int", "count 7", "l:[]int=l@1003  s:text=s@1006  len(l,s):int"},
		{"len(1,y,h())", "int", "type 4 name 6 count 11", ""},
		{"(len)(s)", "int", "", "s:text=s@1006  (len)(s):int"},
		{"t.len(s)", "?", "field 2", ""},
		{"b.len(s)", "?", "name 2", ""},
		{"Len(s)", "?", "name 0", ""},
		{"le(s)", "?", "name 0", ""},
	})
	with := s
	with.W = slices.Clone(s.W)
	with.W[0].Funcs = []api.FuncDecl{{Name: "len", Params: []api.Type{ofKind(1)}, Result: ofKind(2)}}
	rows(t, with, []row{
		{"len(1)", "bool", "", "len:none=a.len  1:int  len(1):bool"},
		{"len(l)", "bool", "type 4", ""},
		{"len()", "bool", "count 4", ""},
	})
	with.Vars = append(slices.Clone(s.Vars), api.Var{Name: "len", T: ofKind(3), At: 7})
	rows(t, with, []row{
		{"len(1)", "?", "call 0", "len:text=len@7  1:int  len(1):?"},
		{"len", "text", "", "len:text=len@7"},
	})
	with.W = s.W
	rows(t, with, []row{{"len(s)", "?", "call 0", "len:text=len@7  s:text=s@1006  len(s):?"}})
	// That of another package, or a package of this name, is not what is called.
	with = s
	with.Imports = append(slices.Clone(s.Imports), "len")
	with.W = append(slices.Clone(s.W), api.Iface{Pkg: "len", Funcs: []api.FuncDecl{{Name: "len"}}})
	with.W[1].Funcs = []api.FuncDecl{{Name: "len", Result: ofKind(2)}}
	rows(t, with, []row{
		{"len(s)", "int", "", "s:text=s@1006  len(s):int"},
		{"b.len()", "bool", "", "b.len:none=b.len  b.len():bool"},
		{"len.len()", "?", "", "len.len:none=len.len  len.len():?"},
		{"len.f()", "?", "name 4", ""},
		{"len", "?", "name 0", ""},
	})
}

// P13.7: calls of functions of other packages.
func TestCallOthers(t *testing.T) {
	rows(t, usual(t), []row{
		{"b.f()", "bool", "", "b.f:none=b.f  b.f():bool"},
		{"b.f(1,y)", "bool", "name 6 count 7", ""},
		{"b.quiet(x)", "none", "", "b.quiet:none=b.quiet  x:int=x@1002  b.quiet(x):none"},
		{"b.quiet(s)", "none", "type 8", ""},
		{"b.quiet(1)+1", "?", "type 0", ""},
		{"b.same(u,new []b.U{})", "[]b.U", "", ""},
		{"b.same(t,lt)", "[]a.T", "bound 11", ""},
		{"b . same(u)", "[]b.U", "count 10", "b . same:none=b.same  u:b.U=u@1005  b . same(u):[]b.U"},
		{"b.two(1,t)", "?", "name 2", "1:int  t:a.T=t@1004  b.two(1,t):?"},
		{"b . g(y)", "?", "name 4 name 6", ""},
		{"b.U(1)", "?", "name 2", ""},
		{"b.len(s)", "?", "name 2", ""},
		{"(b).f()", "bool", "", "(b).f:none=b.f  (b).f():bool"},
		{"c.f(1)", "?", "", "1:int  c.f(1):?"},
		{"c.f(y,h())", "?", "name 4", "y:?  h:none=a.h  h():none  c.f(y,h()):?"},
		{"d.f()", "?", "name 0", "d:?  d.f():?"},
		{"a.f(1)", "?", "name 0", "a:?  1:int  a.f(1):?"},
		{"e.f()", "?", "field 2", "e:a.E=e@1015  e.f():?"},
		{"b.f.g()", "?", "name 2", "b.f:?  b.f.g():?"},
	})
}

// P13.7: calls of methods.
func TestCallMethods(t *testing.T) {
	rows(t, usual(t), []row{
		{"t.m(1)", "bool", "", "t:a.T=t@1004  t.m:none=a.T.m  1:int  t.m(1):bool"},
		{"t.m(s)", "bool", "type 4", ""},
		{"t.m()", "bool", "count 4", ""},
		{"t.m(1,y)", "bool", "name 6 count 7", ""},
		{"t.quiet()", "none", "", "t:a.T=t@1004  t.quiet:none=a.T.quiet  t.quiet():none"},
		{"t.quiet().m(1)", "?", "type 0", ""},
		{"t.same(t).same(i).m(h())", "bool", "type 15 type 20", "t:a.T=t@1004  t.same:none=a.T.same  t:a.T=t@1004  t.same(t):a.T  t.same(t).same:none=a.T.same  i:a.I=i@1008  t.same(t).same(i):a.T  t.same(t).same(i).m:none=a.T.m  h:none=a.h  h():none  t.same(t).same(i).m(h()):bool"},
		{"u.up().up()", "b.U", "", ""},
		{"t.u.up()", "b.U", "", "t:a.T=t@1004  t.u:b.U=a.T.u  t.u.up:none=b.U.up  t.u.up():b.U"},
		{"i.m(1)", "bool", "", "i:a.I=i@1008  i.m:none=a.I.m  1:int  i.m(1):bool"},
		{"p.m(1)", "bool", "", "p:P=p@1009  p.m:none=P.m  1:int  p.m(1):bool"},
		{"q.m(1)", "?", "field 2", ""},
		{"lt[0].m(x)", "bool", "", ""},
		{"lt.m(x)", "?", "field 3", ""},
		{"x.m(1)", "?", "field 2", "x:int=x@1002  1:int  x.m(1):?"},
		{"t.g()", "?", "field 2", "t:a.T=t@1004  t.g():?"}, // A field is no method,
		{"t.f(1)", "?", "field 2", ""},                     // nor is a function.
		{"t . none(y)", "?", "field 4 name 9", ""},
		{"bad.m(h())", "?", "", "bad:?=bad@1011  h:none=a.h  h():none  bad.m(h()):?"},
		{"y.m(y)", "?", "name 0 name 4", ""},
		{"none.m()", "?", "type 0", ""},
		{"t.m.m()", "?", "field 2", "t:a.T=t@1004  t.m:?  t.m.m():?"},
		{"new T{}.m(1)", "bool", "count 6", ""},
	})
}

// P13.7: what can't be called.
func TestCallNothing(t *testing.T) {
	rows(t, usual(t), []row{
		{"x(1)", "?", "call 0", "x:int=x@1002  1:int  x(1):?"},
		{"t(y)", "?", "call 0 name 2", ""},
		{"bad(h())", "?", "", "bad:?=bad@1011  h:none=a.h  h():none  bad(h()):?"},
		{"none(1)", "?", "type 0", "none:none=none@1012  1:int  none(1):?"},
		{"f(1)(2)", "?", "call 0", "f:none=a.f  1:int  f(1):int  2:int  f(1)(2):?"},
		{"h()(2)", "?", "type 0", ""},
		{"g()(2)", "?", "name 0", ""},
		{"t.g(1)(2)", "?", "field 2", ""},
		{"t.m(1)(2)", "?", "call 0", ""},
		{"l[0]()", "?", "call 0", ""},
		{"lbad[0]()", "?", "", ""},
		{"1()", "?", "call 0", "1:int  1():?"},
		{`"f"(1)`, "?", "call 0", ""},
		{"true()", "?", "call 0", ""},
		{"new T{}()", "?", "call 0 count 6", ""},
		{"new []int{f}()", "?", "call 0 name 10", ""},
		{"(!o)(1)", "?", "call 1", ""},
		{"(f+1)(1)", "?", "name 1", ""},
		{"(x+1)(1)", "?", "call 1", "x:int=x@1002  1:int  x+1:int  1:int  (x+1)(1):?"},
	})
}

// P13.7: the first function of a name of the own package, and of the first package of a name behind it.
func TestCallWhich(t *testing.T) {
	function := func(name string, result int) api.FuncDecl {
		return api.FuncDecl{Name: name, Result: ofKind(result)}
	}
	pack := func(name string, functions ...api.FuncDecl) api.Iface { return api.Iface{Pkg: name, Funcs: functions} }
	s := api.Scope{Imports: []string{"a", "b", "", "c", "b"}}
	for _, c := range []struct {
		w []api.Iface
		l []row
	}{
		{nil, []row{{"f()", "?", "name 0", "f():?"}, {"b.f()", "?", "", "b.f():?"}, {"len(b)", "int", "name 4", ""}, {"d.f()", "?", "name 0", ""}, {"b.f", "?", "name 2", ""}}},
		{[]api.Iface{pack("a")}, []row{{"f()", "?", "name 0", ""}, {"a.f()", "?", "", "a.f():?"}}},
		{[]api.Iface{pack("a", function("f", 1))}, []row{{"f()", "int", "", "f:none=a.f  f():int"}, {"a.f()", "?", "", "a.f():?"}, {"b.f()", "?", "", ""}}},
		{[]api.Iface{pack("a", function("f", 1)), pack("a", function("f", 2), function("g", 3))}, []row{{"f()", "int", "", "f:none=a.f  f():int"}, {"a.f()", "bool", "", "a.f:none=a.f  a.f():bool"}, {"g()", "?", "name 0", ""}, {"a.g()", "text", "", ""}}},
		{[]api.Iface{pack("b", function("f", 1)), pack("c", function("f", 2)), pack("c", function("f", 3), function("g", 3)), pack("b", function("g", 3))}, []row{{"f()", "int", "", "f:none=b.f  f():int"}, {"c.f()", "bool", "", ""}, {"c.g()", "?", "name 2", ""}, {"b.f()", "?", "name 2", ""}, {"b.g()", "text", "", ""}, {"g()", "?", "name 0", ""}}},
		{[]api.Iface{pack("", function("f", 1), function("f", 2), function("g", 2), function("f", 3)), pack("b", function("g", 1), function("f", 2), function("g", 3))}, []row{{"f()", "int", "", "f:none=f  f():int"}, {"g()", "bool", "", ""}, {"b.g()", "int", "", ""}, {"b.f()", "bool", "", ""}, {"b.f()==b.f()&&f()+b.g()<g()", "bool", "type 24", ""}}},
		{[]api.Iface{pack("a", function("len", 2)), pack("d", function("f", 1))}, []row{{"len()", "bool", "", "len:none=a.len  len():bool"}, {"d.f()", "?", "name 0", ""}}},
	} {
		s.W = c.w
		rows(t, s, c.l)
	}
	// Names that no parser makes count too.
	s.W = []api.Iface{pack("a", function("", 1)), pack("", function("", 2))}
	own := api.Expr{Kind: 6, End: 2, Args: []api.Expr{{Kind: 4}}}
	other := api.Expr{Kind: 6, End: 2, Args: []api.Expr{{Kind: 5, Args: []api.Expr{{Kind: 4}}}}}
	for want, x := range []api.Expr{own, other} {
		if a := against(t, s, x); a.T.Kind != want+1 || len(a.Wrong) != 0 || len(a.Uses) != 2 {
			t.Errorf("%s", told(a))
		}
	}
	s.W = nil
	for i, x := range []api.Expr{own, other} {
		if a := against(t, s, x); a.T.Kind != 0 || spell(a.Wrong) != spell(errors(t, []string{"name 0", ""}[i])) || len(a.Uses) != 1 {
			t.Errorf("%s", told(a))
		}
	}
}

// P13.4, P13.7: the first method of a name, which a type has by its name or its bound, with the type's text as what has it.
func TestMembersWhich(t *testing.T) {
	s := api.Scope{W: []api.Iface{
		{Pkg: "a", Types: []api.TypeDecl{
			{Name: "T", Struct: true, Fields: []api.Field{{Name: "x", T: ofKind(1)}, {Name: "y", T: ofKind(7)}, {Name: "x", T: ofKind(2)}}, Methods: []api.Method{{Name: "m", Result: ofKind(1)}, {Name: "n", Params: []api.Type{param(0, "P")}, Result: param(0, "P")}, {Name: "m", Result: ofKind(2)}}},
			{Name: "I", Methods: []api.Method{{Name: "m", Result: ofKind(3)}}, Fields: []api.Field{{Name: "x", T: ofKind(1)}}},
			{Name: "T"},
		}},
		{Pkg: "", Types: []api.TypeDecl{{Name: "T", Struct: true, Fields: []api.Field{{Name: "x", T: ofKind(3)}}}}},
	}}
	s.Bounds = []api.Type{named("a", "I"), named("a", "T"), ofKind(0)}
	for i, k := range []api.Type{named("a", "T"), named("a", "I"), named("", "T"), param(0, "P"), param(1, "Q"), param(2, "R"), param(3, "S"), param(-1, "U"), {Kind: 6}, list(named("a", "T"))} {
		s.Vars = append(s.Vars, api.Var{Name: string(rune('a' + i)), T: k, At: i})
	}
	rows(t, s, []row{
		{"a.x", "int", "", "a:a.T=a@0  a.x:int=a.T.x"},
		{"a.y", "none", "", "a:a.T=a@0  a.y:none=a.T.y"},
		{"a.y+1", "?", "type 0", ""},
		{"a.y(1)", "?", "field 2", ""},
		{"a.m()", "int", "", ""},
		{"b.m()", "text", "", "b:a.I=b@1  b.m:none=a.I.m  b.m():text"},
		{"b.x", "?", "field 2", ""},
		{"c.x", "text", "", "c:T=c@2  c.x:text=T.x"},
		{"c.m()", "?", "field 2", ""},
		{"d.m()", "text", "", "d:P=d@3  d.m:none=P.m  d.m():text"},
		{"d.x", "?", "field 2", ""},
		{"e.m()", "?", "field 2", ""}, // Its bound is no interface.
		{"f.m()", "?", "field 2", ""},
		{"g.m()", "?", "field 2", ""},
		{"h.m()", "?", "field 2", ""},
		{"i.m()", "text", "", "i:=i@8  i.m:none=m  i.m():text"},
		{"j.m()", "?", "field 2", ""},
		{"j[0].m()", "int", "", "j:[]a.T=j@9  0:int  j[0]:a.T  j[0].m:none=a.T.m  j[0].m():int"},
		// It is a function without bounds: what it asks for is the caller's own.
		{"a.n(d)", "P", "", ""},
		{"a.n(e)", "P", "type 4", ""},
		{"a.n(1)", "P", "type 4", ""},
	})
}

// P13.2 to P13.7: types that no other layer makes.
func TestOddTypes(t *testing.T) {
	s := usual(t)
	odd := func(kind int) api.Type {
		return api.Type{Kind: kind, Pkg: "a", Name: "T", N: 1, Args: []api.Type{ofKind(1), ofKind(2)}}
	}
	kinds := append(unknown(), 0, 1, 2, 3, 4, 5, 6, 7)
	for _, kind := range kinds {
		for _, other := range kinds {
			s.Vars = append(s.Vars[:0:0], api.Var{Name: "x", T: odd(kind), At: -1}, api.Var{Name: "y", T: odd(other), At: math.MaxInt}, api.Var{Name: "z", T: ofKind(kind)}, api.Var{Name: "l", T: list(odd(other), odd(kind))})
			for _, text := range strings.Fields("x x+y x==y x&&y x*y x<x x-z z+x !x x.g x.m(1) x[0] x[y] l[x] l[0] len(x) f(x) id(x) id(l) pick(x,l) x(y) new{x,y} h(x).g two(x,y) z.g z[0] z()") {
				against(t, s, parsed(t, strings.ReplaceAll(text, "new", "new []I")))
			}
		}
		// What has a type has all of it.
		a := asked(s, parsed(t, "x"))
		if spell(a.T) != spell(odd(kind)) || spell(a.Uses) != spell([]api.Use{{End: 1, T: odd(kind), Def: api.Def{Name: "x", At: -1}}}) {
			t.Errorf("%d: %s", kind, told(a))
		}
		if a = asked(s, parsed(t, "x+z")); (kind == 1 || kind == 3) != (spell(a.T) == spell(odd(kind))) {
			t.Errorf("%d: %s", kind, told(a))
		}
	}
	s.Vars = []api.Var{{Name: "x", T: list()}, {Name: "y", T: list(list(), ofKind(1))}, {Name: "z", T: api.Type{Kind: 0, Pkg: "a", Name: "T", N: 1}}}
	rows(t, s, []row{
		{"x[0]", "?", "", "x:[]?=x@0  0:int  x[0]:?"},
		{"y[0]", "[]?", "", ""},
		{"len(x)+len(y)", "int", "", ""},
		{"f(z)+z", "?", "", ""},
		{"z.g", "?", "", ""},
		{"z.m(s)", "?", "name 4", ""},
	})
	for _, text := range []string{"z.g", "z[0]", "z.m()", "z()", "z+z"} {
		if a := against(t, s, parsed(t, text)); spell(a.T) != spell(api.Type{}) {
			t.Errorf("%s: %s", text, told(a))
		}
	}
}

// levels is how deep the document's bound permits.
const levels = 1 << 16

// P13.1, R1: expressions of many levels.
func TestDeep(t *testing.T) {
	s := usual(t)
	leaf := func(text string) api.Expr { return parsed(t, text) }
	for _, c := range []struct {
		begin, want, wrong string
		uses               int
		step               func(x api.Expr) api.Expr
	}{
		{"o", "bool", "", levels + 1, func(x api.Expr) api.Expr { return api.Expr{Kind: 10, Args: []api.Expr{x}} }},
		{"x", "int", "", 2*levels + 1, func(x api.Expr) api.Expr { return api.Expr{Kind: 9, Name: "+", Args: []api.Expr{x, leaf("1")}} }},
		{"x", "int", "", 2*levels + 1, func(x api.Expr) api.Expr { return api.Expr{Kind: 9, Name: "-", Args: []api.Expr{leaf("1"), x}} }},
		{"y", "bool", "name 0", 2*levels + 1, func(x api.Expr) api.Expr { return api.Expr{Kind: 9, Name: "&&", Args: []api.Expr{x, leaf("o")}} }},
		{"y", "?", "name 0", levels + 1, func(x api.Expr) api.Expr { return api.Expr{Kind: 5, Name: "g", Args: []api.Expr{x}} }},
		{"x", "?", "type 0", 2*levels + 1, func(x api.Expr) api.Expr { return api.Expr{Kind: 7, Args: []api.Expr{x, leaf("x")}} }},
		{"x", "int", "", 2*levels + 1, func(x api.Expr) api.Expr { return api.Expr{Kind: 7, Args: []api.Expr{leaf("l"), x}} }},
		{"x", "int", "", 2*levels + 1, func(x api.Expr) api.Expr { return api.Expr{Kind: 6, Args: []api.Expr{leaf("f"), x}} }},
		{"x", "?", "call 0", levels + 1, func(x api.Expr) api.Expr { return api.Expr{Kind: 6, Args: []api.Expr{x}} }},
		{"y", "?", "name 0", levels, func(x api.Expr) api.Expr { return api.Expr{Kind: 6, Args: []api.Expr{x}} }},
		{"u", "b.U", "", 2*levels + 1, func(x api.Expr) api.Expr {
			return api.Expr{Kind: 6, Args: []api.Expr{{Kind: 5, Name: "up", Args: []api.Expr{x}}}}
		}},
		{"t", "[]a.E", "", levels + 1, func(x api.Expr) api.Expr {
			return api.Expr{Kind: 8, T: api.TypeX{Kind: 5, Args: []api.TypeX{{Kind: 4, Name: "E"}}}, Args: []api.Expr{x}}
		}},
	} {
		x := leaf(c.begin)
		for range levels {
			x = c.step(x)
		}
		k, wrong, uses := value.Expr(s, x)
		if term.Text(k) != c.want || spell(wrong) != spell(errors(t, c.wrong)) || len(uses) != c.uses {
			t.Errorf("%s of %.300s: %s, %s, %d Uses", c.begin, spell(c.step(api.Expr{})), term.Text(k), told(wrong), len(uses))
		}
	}
}

// P13.1, R1: types of many levels.
func TestDeepTypes(t *testing.T) {
	s := usual(t)
	deep, x := ofKind(1), api.TypeX{Kind: 1}
	for range levels {
		deep, x = list(deep), api.TypeX{Kind: 5, Args: []api.TypeX{x}}
	}
	s.Vars = []api.Var{{Name: "l", T: deep}}
	s.W[0].Funcs = append(s.W[0].Funcs, api.FuncDecl{Name: "deep", Params: []api.Type{deep}, Result: deep})
	for _, text := range []string{"l", "deep(l)", "id(l)", "id(deep(l))"} {
		k, wrong, uses := value.Expr(s, parsed(t, text))
		if len(wrong) > 0 || !term.Same(k, deep) || !term.Same(uses[len(uses)-1].T, deep) {
			t.Errorf("%s: %v, %d Uses", text, wrong, len(uses))
		}
	}
	for _, args := range [][]api.Expr{nil, {parsed(t, "l[0]"), parsed(t, "l[0]")}} {
		k, wrong, _ := value.Expr(s, api.Expr{Kind: 8, T: x, Args: args})
		if len(wrong) > 0 || !term.Same(k, deep) {
			t.Errorf("%v", wrong)
		}
	}
	if k, wrong, _ := value.Expr(s, parsed(t, "l+l[0]")); k.Kind != 0 || spell(wrong) != spell(errors(t, "type 2")) {
		t.Errorf("%v", wrong)
	}
}

// P13.1, R1: many of each.
func TestMany(t *testing.T) {
	const n = 100000
	s := api.Scope{W: []api.Iface{{Pkg: "a"}, {Pkg: "b"}}}
	long := api.TypeDecl{Name: "T", Struct: true}
	var terms, args []api.Expr
	name := func(i int) string { return "x" + strconv.Itoa(i) }
	number := ofKind(1)
	for i := range n {
		s.Vars = append(s.Vars, api.Var{Name: name(i), T: number, At: i})
		s.Imports = append(s.Imports, "p"+name(i))
		f := api.FuncDecl{Name: name(i) + "f", Result: number}
		s.W[0].Funcs, s.W[1].Funcs = append(s.W[0].Funcs, f), append(s.W[1].Funcs, f)
		s.W = append(s.W, api.Iface{Pkg: "p" + name(i), Funcs: []api.FuncDecl{f}})
		long.Fields = append(long.Fields, api.Field{Name: name(i), T: number})
		args = append(args, api.Expr{Kind: 1, At: i})
		terms = append(terms, api.Expr{Kind: 4, Name: name(i)})
		terms = append(terms, api.Expr{Kind: 6, Args: []api.Expr{{Kind: 4, Name: name(i) + "f"}}})
		terms = append(terms, api.Expr{Kind: 6, Args: []api.Expr{{Kind: 5, Name: name(i) + "f", Args: []api.Expr{{Kind: 4, Name: "p" + name(i)}}}}})
		terms = append(terms, api.Expr{Kind: 6, Args: []api.Expr{{Kind: 5, Name: name(i) + "f", Args: []api.Expr{{Kind: 4, Name: "b"}}}}})
	}
	s.Imports = append(s.Imports, "b")
	args[5], args[n-1] = api.Expr{Kind: 2, At: 5}, api.Expr{Kind: 4, At: n - 1, Name: "none"}
	k, wrong, uses := value.Expr(s, api.Expr{Kind: 8, T: api.TypeX{Kind: 5, Args: []api.TypeX{{Kind: 1}}}, Args: terms})
	if len(wrong) > 0 || k.Kind != 5 || len(uses) != 7*n+1 || uses[7*n-1].Def != (api.Def{At: -1}) || uses[7*n-2].Def != (api.Def{Pkg: "b", Name: name(n-1) + "f", At: -1}) || uses[0].Def != (api.Def{Name: name(0)}) {
		t.Errorf("%s, %s, %d Uses", told(k), told(wrong), len(uses))
	}
	s.W[0].Types = []api.TypeDecl{long}
	k, wrong, uses = value.Expr(s, api.Expr{Kind: 8, End: n + 1, T: api.TypeX{Kind: 4, Name: "T"}, Args: args})
	if k.Kind != 4 || spell(wrong) != spell(errors(t, "type 5 name "+strconv.Itoa(n-1))) || len(uses) != n+1 {
		t.Errorf("%s, %s, %d Uses", told(k), told(wrong), len(uses))
	}
	f := api.FuncDecl{Name: "f", Params: slices.Repeat([]api.Type{number}, n-1), Result: number}
	s.W[0].Funcs = append(s.W[0].Funcs, f)
	call := api.Expr{Kind: 6, End: n + 1, Args: append([]api.Expr{{Kind: 4, Name: "f"}}, args...)}
	k, wrong, uses = value.Expr(s, call)
	if k.Kind != 1 || spell(wrong) != spell(errors(t, fmt.Sprintf("type 5 name %d count %d", n-1, n))) || len(uses) != n+2 {
		t.Errorf("%s, %s, %d Uses", told(k), told(wrong), len(uses))
	}
}
