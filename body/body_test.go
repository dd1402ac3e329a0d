package body_test

import (
	"fmt"
	"math"
	"slices"
	"strconv"
	"strings"
	"testing"

	"quoin/api"
	"quoin/body"
	"quoin/filex"
	"quoin/sig"
	"quoin/term"
)

// unknown are numbers that are no Kind, neither of a statement nor of an expression.
func unknown() []int { return []int{0, -1, -4, 11, 12, 255, 256, 1<<32 + 1, math.MaxInt, math.MinInt} }

func ofKind(kind int) api.Type { return api.Type{Kind: kind} }

func named(pack, name string) api.Type { return api.Type{Kind: 4, Pkg: pack, Name: name} }

// parsed is a package, by its text.
func parsed(t *testing.T, text string) api.File {
	t.Helper()
	f, d := filex.Text(text)
	if d.Code != 0 {
		t.Fatalf("%s: %v", text, d)
	}
	return f
}

// shown is what a package without mistakes shows to others, by its text.
func shown(t *testing.T, text string, imports ...api.Iface) api.Iface {
	t.Helper()
	p, wrong := sig.Build(parsed(t, text), imports)
	if len(wrong) > 0 {
		t.Fatalf("%s: %v", text, wrong)
	}
	return p
}

// usual is a scope in which a.T meets a.I; all meet a.E. The package c is visible, and not available; d is available, and not visible.
func usual(t *testing.T) api.Scope {
	t.Helper()
	b := shown(t, "package b;type U struct{n int;}func(u U)up()U{return u;}type I interface{up()U;}func f()bool{return true;}func h(){}")
	d := shown(t, "package d;type U struct{}type I interface{}func f()int{return 1;}")
	a := shown(t, "package a;import b;type T struct{g int;next []T;u b.U;i I;}func(t T)m(x int)bool{return true;}func(t T)same(u T)T{return t;}func(t T)quiet(){}type I interface{m(int)bool;}type E interface{}type Z struct{}"+
		"func g(x int)int{return x;}func h(){}func id[P E](p P)P{return p;}func pick[P I](p P)P{return p;}func y()text{return \"\";}", b)
	return api.Scope{W: []api.Iface{a, b, d}, Imports: []string{"b", "c", "c"}}
}

// function is the last declaration of a text, which follows what any package begins with; its offsets are those in the text.
func function(t *testing.T, text string) api.Decl {
	t.Helper()
	const begin = "package a;"
	l := parsed(t, begin+text).Decls
	return replaced(l[len(l)-1], func(at int) int { return at - len(begin) })
}

// answered is what is told of a function.
type answered struct {
	Wrong []api.Diag
	Uses  []api.Use
}

func asked(s api.Scope, d api.Decl) answered {
	var a answered
	a.Wrong, a.Uses = body.Func(s, d)
	return a
}

// codes are the words for what may be wrong.
func codes() map[string]int {
	return map[string]int{"twice": 9, "name": 10, "type": 11, "count": 12, "field": 13, "call": 14, "bound": 15, "return": 16}
}

// marked takes the marks out of a text such as `let x=@name@y;`: it is the text, and the errors that the marks name, where they stand.
func marked(t *testing.T, text string) (string, []api.Diag) {
	t.Helper()
	var l []api.Diag
	bare := ""
	for i, part := range strings.Split(text, "@") {
		if i%2 == 0 {
			bare += part
		} else if code := codes()[part]; code != 0 {
			l = append(l, api.Diag{At: len(bare), Code: code})
		} else {
			t.Fatal(text)
		}
	}
	return bare, l
}

// spelled are Uses as texts: what is used, its type, and its Def: "t.g:int=a.T.g", "x:int=x@7", "1:int".
func spelled(text string, l []api.Use) string {
	var all []string
	for _, u := range l {
		one := text[u.At:u.End] + ":" + term.Text(u.T)
		if u.Def != (api.Def{At: -1}) {
			one += "=" + strings.TrimPrefix(u.Def.Pkg+"."+u.Def.Name, ".")
		}
		if u.Def.At != -1 {
			one += "@" + strconv.Itoa(u.Def.At)
		}
		all = append(all, one)
	}
	return strings.Join(all, "  ")
}

// spell is a value's text, in which a list that is nil and an empty one are the same.
func spell(x any) string { return fmt.Sprintf("%+v", x) }

// told is the beginning of it.
func told(x any) string { return fmt.Sprintf("%.1500s", spell(x)) }

// row is a function, with marks where something is wrong; the Uses are looked at if some are told.
type row struct{ text, uses string }

func (r row) in(t *testing.T, s api.Scope) {
	t.Helper()
	text, want := marked(t, r.text)
	d := function(t, text)
	a := against(t, s, d)
	if spell(a.Wrong) != spell(want) {
		t.Errorf("%s: %v; want %v", text, a.Wrong, want)
	}
	if got := spelled(text, a.Uses); r.uses != "" && got != r.uses {
		t.Errorf("%s: %s; want %s", text, got, r.uses)
	}
}

func rows(t *testing.T, s api.Scope, l []row) {
	t.Helper()
	for _, r := range l {
		r.in(t, s)
	}
}

// The chapter's examples.
func TestExamples(t *testing.T) {
	rows(t, api.Scope{}, []row{
		{"func f(x int)int{let y=x+1;return y;}", ""},
		{"func f(){let y=1;@twice@let y=2;y=@type@true;@name@z=1;}", ""},
		{"func f()int{if true{return 1;}@return@}", ""},
		{"func f(){return @return@1;}", ""},
		{"func f()int{@return@return;}", ""},
	})
}

// P14.1: a block's last statement, and in it what each of both blocks ends in.
func TestEnds(t *testing.T) {
	for _, c := range []struct {
		text string
		want bool
	}{
		{"", false},
		{"return;", true},
		{"return 1;", true},
		{"x=1;return;", true},
		{"return;x=1;", false},
		{"return;return;", true},
		{"let x=1;", false},
		{"f();", false},
		{"if a{return;}", false},
		{"if a{return;}else{}", false},
		{"if a{}else{return;}", false},
		{"if a{}else{}", false},
		{"if a{return;}else{return;}", true},
		{"if a{return;}else{return;}x=1;", false},
		{"if a{return;}else{return;}return;", true},
		{"if a{return;x=1;}else{return;}", false},
		{"if a{x=1;return;}else{y=1;return;}", true},
		{"if a{if b{return;}else{return;}}else{return;}", true},
		{"if a{if b{return;}else{}}else{return;}", false},
		{"if a{return;}else{if b{return;}else{if c{return;}else{return;}}}", true},
		{"if a{return;}else{if b{return;}else{if c{return;}}}", false},
		{"for a{return;}", false},
		{"for true{if a{return;}else{return;}}", false},
		{"if a{for true{return;}}else{return;}", false},
	} {
		l := function(t, "func f(){"+c.text+"}").Body
		if body.Ends(l) != c.want || ends(l) != c.want {
			t.Errorf("%s: not %t", c.text, c.want)
		}
	}
	back := []api.Stmt{{Kind: 3}}
	for _, c := range []struct {
		st   api.Stmt
		want bool
	}{
		{api.Stmt{Kind: 4, Body: back, Else: back}, false}, // It has no else, whatever stands there.
		{api.Stmt{Kind: 4, Has: true, Body: back, Else: back}, true},
		{api.Stmt{Kind: 4, Has: true, Body: back}, false},
		{api.Stmt{Kind: 4, Has: true, Else: back}, false},
		{api.Stmt{Kind: 5, Has: true, Body: back, Else: back}, false},
		{api.Stmt{Kind: 3, Body: []api.Stmt{{}}}, true},
	} {
		if body.Ends([]api.Stmt{c.st}) != c.want || body.Ends([]api.Stmt{{}, {Kind: 3}, c.st}) != c.want {
			t.Errorf("%v: not %t", c.st, c.want)
		}
	}
	for _, kind := range append(unknown(), 1, 2, 5, 6) {
		if body.Ends([]api.Stmt{{Kind: 3}, {Kind: kind, Has: true, Body: back, Else: back}}) {
			t.Errorf("%d ends", kind)
		}
	}
}

// P14.1: all blocks of up to two statements, three blocks deep.
func TestEndsSmall(t *testing.T) {
	blocks := [][]api.Stmt{nil, {{Kind: 3}}, {{Kind: 6}}, {{}}}
	for range 2 {
		var all [][]api.Stmt
		for _, kind := range []int{1, 2, 3, 4, 5, 6, 0} {
			for _, inner := range blocks {
				for _, other := range blocks {
					for i := range 4 {
						st := api.Stmt{Kind: kind, Has: i%2 == 0, Body: inner, Else: other}
						all = append(all, []api.Stmt{st}, []api.Stmt{{Kind: 3 + i}, st}, []api.Stmt{st, {Kind: 3 + i}})
					}
				}
			}
		}
		right := 0
		for _, l := range all {
			if body.Ends(l) != ends(l) {
				t.Fatalf("%v: not %t", l, ends(l))
			} else if ends(l) {
				right++
			}
		}
		if right < 100 {
			t.Errorf("too few: %d", right)
		}
		blocks = nil
		for i := 0; i < len(all); i += 41 {
			blocks = append(blocks, all[i])
		}
	}
}

// P14.2: parameters, in order, with the types that the scope has.
func TestParameters(t *testing.T) {
	rows(t, usual(t), []row{
		{"func f(x int,o bool,s text){x;o;s;}", "x:int=x@7  o:bool=o@13  s:text=s@20"},
		{"func f(l []T,u b.U,i I){l;u;i;}", "l:[]a.T=l@7  u:b.U=u@13  i:a.I=i@19"},
		{"func f(x V){x;}", "x:?=x@7"},
		{"func f(x []V){x;}", "x:[]?=x@7"},
	})
}

// P14.2: what is declared more than once, and names that mean several things.
func TestParametersWhich(t *testing.T) {
	rows(t, usual(t), []row{
		{"func f(x b.T,y c.T,z d.U){x;y;z;}", "x:?=x@7  y:?=y@13  z:?=z@19"},
		{"func f(x P){x;}", "x:?=x@7"},
		{"func f(x int,x bool){x;}", "x:bool=x@13"},
		{"func f(x int,y int,x bool){@name@z;y;x;}", "z:?  y:int=y@13  x:bool=x@19"},
		{"func f(T int){T;new Z{};new []T{};}", "T:int=T@7  new Z{}:a.Z  new []T{}:[]a.T"},
		{"func f(x int)x{return x;}", "x:int=x@7"},
		{"func f(){@name@f;@name@g;@name@b;}", "f:?  g:?  b:?"},
		{"func f(b T){b.g;b.@field@f();}", "b:a.T=b@7  b.g:int=a.T.g  b:a.T=b@7  b.f():?"},
		{"func f(){b.f();b.@name@g();c.g();@name@d.g();}", ""},
		{"func f(g int){g;@call@g(1);h();}", ""},
		{"func f(len []int){len[0];@call@len(len);}", ""},
	})
}

// P14.2: the receiver is a variable ahead of the parameters, if it is a struct of the own package.
func TestReceiver(t *testing.T) {
	s := usual(t)
	rows(t, s, []row{
		{"func(t T)q(){t;t.g;t.m(1);}", "t:a.T=t@5  t:a.T=t@5  t.g:int=a.T.g  t:a.T=t@5  t.m:none=a.T.m  1:int  t.m(1):bool"},
		{"func(t Z)q(x int){t;x;}", "t:a.Z=t@5  x:int=x@11"},
		{"func(t T)q(t int){t;}", "t:int=t@11"},
		{"func(t T)q(x int,t bool)T{return @type@t;}", "t:bool=t@17"},
		{"func(t T)q()T{return t;}", "t:a.T=t@5"},
		{"func(t I)q(){t;t.m(1);}", "t:?=t@5  t:?=t@5  1:int  t.m(1):?"},
		{"func(t E)q(){t;}", "t:?=t@5"},
		{"func(t int)q(){t;}", "t:?=t@5"},
		{"func(t []T)q(){t;}", "t:?=t@5"},
		{"func(t V)q(){t;}", "t:?=t@5"},
		{"func(t b.U)q(){t;}", "t:?=t@5"},
		{"func(t c.U)q(){t;}", "t:?=t@5"},
		{"func(t d.U)q(){t;}", "t:?=t@5"},
		{"func(t a.T)q(){t;}", "t:?=t@5"}, // It does not import itself.
		{"func(t T)q[P I](p P)P{let z=p;z;new []@name@P{};return p;}", "p:?=p@16  z:?=z@22  new []P{}:[]?  p:?=p@16"},
		{"func(t T)q[T E](u T){t;u;}", "t:a.T=t@5  u:a.T=u@16"},
	})
	// Without Method there is no receiver, whatever stands there.
	d := function(t, "func(t T)q[P I](p P){p;p.m(1);t;}")
	d.Method = false
	a := against(t, s, d)
	if spell(a.Wrong) != spell([]api.Diag{{At: 30, Code: 10}}) || term.Text(a.Uses[0].T) != "P" || len(a.Uses) != 6 {
		t.Errorf("%s", told(a))
	}
	// It is a struct of the first package, whichever name it has.
	for _, name := range []string{"", "b", "x"} {
		s.W[0].Pkg = name
		want := strings.TrimPrefix(name+".T", ".")
		rows(t, s, []row{{"func(t T)q(){t;t.g;}", fmt.Sprintf("t:%s=t@5  t:%s=t@5  t.g:int=%s.g", want, want, want)}})
	}
	for _, w := range [][]api.Iface{nil, {{}}, {{Pkg: "a"}}, {{Pkg: "b"}, s.W[0]}, {{}, {Types: s.W[0].Types}}} {
		s.W = w
		rows(t, s, []row{{"func(t T)q(){t;}", "t:?=t@5"}})
	}
}

// P14.2: what a package is told of that imports its own name.
func TestOwnName(t *testing.T) {
	own := shown(t, "package a;type T struct{x int;}type U struct{}type I interface{m();}type J interface{}")
	other := shown(t, "package a;type T interface{}type V struct{}type W interface{}type I struct{}type U struct{y int;}")
	s := api.Scope{W: []api.Iface{own, other}, Imports: []string{"a"}}
	rows(t, s, []row{
		{"func(t T)q(){t.x;}", ""},
		{"func(t a.T)q(){t.x;}", "t:a.T=t@5  t.x:int=a.T.x"},
		{"func(t a.U)q(){t.@field@y;}", ""},
		{"func(t a.V)q(){t;}", "t:?=t@5"},
		{"func(t a.I)q(){t;}", "t:?=t@5"},
		{"func f(t a.V,u V,i a.I){t;u;i;}", "t:a.V=t@7  u:?=u@13  i:a.I=i@17"},
		{"func f[P a.I](p P){p.m();}", ""},
		{"func f[P a.J](p P){p.@field@m();}", ""},
	})
}

// P14.2: the names of type parameters, each once, with their bounds.
func TestBounds(t *testing.T) {
	rows(t, usual(t), []row{
		{"func f[P I](p P){p;p.m(1);p.@field@n();}", "p:P=p@12  p:P=p@12  p.m:none=P.m  1:int  p.m(1):bool  p:P=p@12  p.n():?"},
		{"func f[P E](p P){p.@field@m(1);}", ""},
		{"func f[P b.I](p P){p.up().n;}", ""},
		{"func f[P I,Q b.I](q Q,p P){p.m(1);q.up();p.@field@up();q.@field@m(1);}", ""},
		{"func f[P T](p P){p;p.@field@m(1);}", "p:P=p@12  p:P=p@12  1:int  p.m(1):?"}, // No interface,
		{"func f[P int](p P){p.@field@m(1);}", ""},
		{"func f[P []I](p P){p.@field@m(1);}", ""},
		{"func f[P V](p P){p.@field@m(1);}", ""}, // nor is what is not declared,
		{"func f[P c.I](p P){p.@field@m(1);}", ""},
		{"func f[P d.I](p P){p.@field@m(1);}", ""},
		{"func f[P I,Q P](q Q){q.@field@m(1);}", ""},            // nor a type parameter,
		{"func f[I E,Q I](q Q,i I){q.m(1);i.@field@m(1);}", ""}, // whose names are not seen there.
		{"func f[P I,P E](p P){p.m(1);}", ""},
		{"func f[P E,P I](p P){p.@field@m(1);}", ""},
		{"func f[P E,P I,Q I](q Q){q.m(1);}", "q:Q=q@20  q.m:none=Q.m  1:int  q.m(1):bool"},
	})
}

// P14.2: type parameters in the body: as types, as arguments, and as what is returned.
func TestBoundsWithin(t *testing.T) {
	rows(t, usual(t), []row{
		{"func f[T I](t T){t;t.@field@g;t.m(1);new []T{t};new @type@T{};}", ""},
		{"func f[P I](p P,l []P){l=new []P{p,p};l=@type@new []I{p};pick(p);id(l);}", ""},
		{"func f[P E](p P){id(p);pick(p@bound@);}", ""},
		{"func f[P V](p P){pick(p@bound@);}", ""},
		{"func f[P E](p P)P{return p;}", "p:P=p@12"},
		{"func f[P E](p P)P{return @type@1;}", ""},
		{"func f[P E,Q E](p P,q Q)P{p=@type@q;return @type@q;}", ""},
		{"func f[P I](p P)I{return p;}", ""},
		{"func f[P E](p P)I{return @type@p;}", ""},
		{"func f[P I](p P){@name@P;}", ""},
		{"func f[P T](p P,i E){i=p;i=new []P{};}", ""},
	})
}

// P14.2: the first 16 of the bounds count, those that are there twice too.
func TestManyBounds(t *testing.T) {
	bounds := func(l ...string) string { return "[" + strings.Join(l, " I,") + " I]" }
	var l []string
	for i := range 17 {
		l = append(l, "P"+strconv.Itoa(i))
	}
	rows(t, usual(t), []row{
		{"func f" + bounds(l[:15]...) + "(p P14,q P15){p.m(1);q;}", "p:P14=p@88  p.m:none=P14.m  1:int  p.m(1):bool  q:?=q@94"},
		{"func f" + bounds(l[:16]...) + "(p P15,q P0){p.m(1);q.m(1);}", "p:P15=p@94  p.m:none=P15.m  1:int  p.m(1):bool  q:P0=q@100  q.m:none=P0.m  1:int  q.m(1):bool"},
		{"func f" + bounds(l...) + "(p P15,q P16)P16{p.m(1);q;q.m(1);return @type@h();}", ""},
		{"func f" + bounds(l...) + "(p P16){p;}", "p:?=p@100"},
		{"func f" + bounds(append(slices.Repeat([]string{"P"}, 16), "Q")...) + "(p P,q Q){p.m(1);q;}", "p:P=p@76  p.m:none=P.m  1:int  p.m(1):bool  q:?=q@80"},
		{"func f" + bounds(append(slices.Repeat([]string{"P"}, 15), "Q", "R")...) + "(q Q,r R){q.m(1);r;}", "q:Q=q@76  q.m:none=Q.m  1:int  q.m(1):bool  r:?=r@80"},
	})
}

// P14.2: the wanted type.
func TestWanted(t *testing.T) {
	rows(t, usual(t), []row{
		{"func f()int{return 1;}", "1:int"},
		{"func f()T{return @type@1;}", ""},
		{"func f()[]T{return new []T{};}", ""},
		{"func f()b.U{return @type@new Z{};}", ""},
		{"func f()b.I{return new b.U{1};}", ""},
		{"func f()V{return 1;}", "1:int"}, // What is wrong with the type itself is told elsewhere.
		{"func f()V{return @type@h();}", ""},
		{"func f()V{@return@return;}", ""},
		{"func f()V{@return@}", ""},
		{"func f()[]V{return new []int{1};}", ""},
		{"func f()[]V{return @type@1;}", ""},
		{"func f()c.V{return 1;}", ""},
		{"func f()d.U{return true;}", ""},
		{"func f()P{return true;}", ""},
	})
}

// P14.2: of the scope only W and Imports count, and of the declaration what a function has.
func TestWhatCounts(t *testing.T) {
	s := usual(t)
	other := s
	other.Names, other.Bounds = []string{"V", "T"}, []api.Type{named("a", "I"), named("a", "I")}
	other.Vars = []api.Var{{Name: "x", T: ofKind(1), At: 3}, {Name: "h", T: ofKind(2)}, {Name: "b", T: ofKind(3)}}
	for _, text := range []string{"func f(p V){p;x;x=1;h();b.f();let x=x;new []V{};new T{};}", "func(t T)q(x V)V{t;x;return V;}", "func f[P V](p P)T{p.m(1);pick(p);return p;}"} {
		d := function(t, text)
		want := against(t, s, d)
		if got := against(t, other, d); spell(got) != spell(want) {
			t.Errorf("%s: %s; want %s", text, told(got), told(want))
		}
		for _, kind := range []int{0, 1, 2, 4} {
			same := d
			same.Kind, same.Name, same.At = kind, "other", -5
			same.Methods = []api.MethodX{{Name: "x", Has: true, Params: []api.TypeX{{Kind: 1}}}}
			if !d.Method {
				same.Recv = api.Param{Name: "x", At: 4, T: api.TypeX{Kind: 4, Name: "T"}}
			}
			if !d.Has {
				same.Result = api.TypeX{Kind: 1}
			}
			if got := asked(s, same); spell(got) != spell(want) {
				t.Errorf("%s: %s; want %s", text, told(got), told(want))
			}
		}
	}
}

// P14.3: variables that a let declares.
func TestLet(t *testing.T) {
	rows(t, usual(t), []row{
		{"func f(){let x=1;x;}", "1:int  x:int=x@9"},
		{"func f(){  let  x  =  1;x;}", "1:int  x:int=x@11"},
		{"func f(){let x=@name@x;x;}", "x:?  x:?=x@9"},
		{"func f(x int){let x=x==1;x;}", "x:int=x@7  1:int  x==1:bool  x:bool=x@14"},
		{"func f(){let x=1;@twice@let x=true;x;}", "1:int  true:bool  x:bool=x@17"},
		{"func f(){let x=1;@twice@let x=x+1;@twice@let x=x;x;}", "1:int  x:int=x@9  1:int  x+1:int  x:int=x@17  x:int=x@27"},
		{"func f(){let x=1;let y=2;@twice@let x=y;@twice@let y=x;y;}", ""},
		{"func f(){let x=@type@h();x;}", "h:none=a.h  h():none  x:?=x@9"},
		{"func f(){let x=1;@twice@let x=@type@h();x.g;x;}", ""},
		{"func f(){let x=@name@y;x.g;x+1;x=true;}", ""},
		{"func f(){let x=(@type@h());}", ""},
		{"func f(){let x=1+@type@true;x;}", "1:int  true:bool  1+true:?  x:?=x@9"},
		{"func f(){let l=new []T{};l[0].next[0].g;}", ""},
		{"func f(T int){let I=T;new Z{};I=2;}", ""},
		{"func f(){let b=1;b.@field@f();}", ""},
		{"func f(){b.f();let b=1;b.@field@f();}", ""},
		{"func f(){h();let h=1;@call@h();}", ""},
		{"func f(){@name@x;let x=1;}", ""},
		{"func f(){@name@x=2;let x=1;x=2;}", ""},
	})
}

// P14.3: where a variable can be seen.
func TestVisible(t *testing.T) {
	rows(t, usual(t), []row{
		{"func f(o bool){if o{let x=1;x;}@name@x;}", ""},
		{"func f(o bool){if o{let x=1;}else{@name@x;}}", ""},
		{"func f(o bool){if o{let x=1;}else{let x=true;x;}}", "o:bool=o@7  1:int  true:bool  x:bool=x@34"},
		{"func f(o bool){for o{let x=1;x;}@name@x=1;}", ""},
		{"func f(o bool){let x=1;if o{x;}else{x;}for o{x;}}", "1:int  o:bool=o@7  x:int=x@15  x:int=x@15  o:bool=o@7  x:int=x@15"},
		{"func f(o bool){let x=1;if o{let x=true;x;}x;}", "1:int  o:bool=o@7  true:bool  x:bool=x@28  x:int=x@15"},
		{"func f(o bool){let x=1;if o{let x=true;@twice@let x=\"\";x;}x;}", `1:int  o:bool=o@7  true:bool  "":text  x:text=x@39  x:int=x@15`},
		{"func f(o bool){if o{let x=1;}let x=2;x;}", "o:bool=o@7  1:int  2:int  x:int=x@29"},
		{"func f(o bool){if o{let x=1;for o{let x=true;if o{let x=\"\";x;}x;}x;}@name@x;}", `o:bool=o@7  1:int  o:bool=o@7  true:bool  o:bool=o@7  "":text  x:text=x@50  x:bool=x@34  x:int=x@20  x:?`},
		{"func f(x int,o bool){if o{let x=o;x;}x;}", "o:bool=o@13  o:bool=o@13  x:bool=x@26  x:int=x@7"},
		{"func f(o bool){if o{let o=1;if @type@o{}}if o{}}", ""},
		{"func f(o bool){for o{let o=1;o;}o;}", "o:bool=o@7  1:int  o:int=o@21  o:bool=o@7"},
		{"func(t T)q(){if true{let t=1;t;}t.g;}", ""},
		{"func f(){if true{let x=1;}if true{@name@x;let x=2;}else{@name@x;}}", ""},
		{"func f(){let y=1;if true{if true{y;}let y=true;if y{y=@type@1;}}y=2;}", ""},
		{"func f(){if true{let h=1;@call@h();}h();}", ""},
		{"func f(){if true{let b=1;b.@field@f();}b.f();}", ""},
		{"func f(){if true{let g=1;}else{let g=2;@twice@let g=3;}g(1);}", ""},
	})
}

// P14.3: variables that are given another value.
func TestSet(t *testing.T) {
	rows(t, usual(t), []row{
		{"func f(x int){x=1;}", "1:int  x:int=x@7"},
		{"func f(x int){  x  =  x+1;}", "x:int=x@7  1:int  x+1:int  x:int=x@7"},
		{"func f(long1 int){long1=2;}", "2:int  long1:int=long1@7"},
		{"func f(x int){x=@type@true;}", "true:bool  x:int=x@7"},
		{"func f(x int){x=@type@h();}", "h:none=a.h  h():none  x:int=x@7"},
		{"func f(x V){x=@type@h();}", ""},
		{"func f(x int){x=@name@y;}", "y:?  x:int=x@7"},
		{"func f(x V){x=1;}", "1:int  x:?=x@7"},
		{"func f(x int){@name@y=1;}", "1:int"},
		{"func f(x int){@name@y=x+@type@true;}", "x:int=x@7  true:bool  x+true:?"},
		{"func f(x int){@name@y=h();}", ""},
		{"func f(x int){@name@y=@name@z;}", "z:?"},
		{"func f(){@name@f=1;@name@h=1;@name@b=1;@name@T=1;@name@len=1;}", ""},
		{"func f[P I](p P){@name@P=p;p=p;}", "p:P=p@12  p:P=p@12  p:P=p@12"},
		{"func f(i I,t T){i=t;t=@type@i;i=@type@new Z{};}", ""},
		{"func f(e E,x int){e=x;x=@type@e;e=new []int{};e=@type@h();}", ""},
		{"func f(l []T,m []I){l=@type@m;m=@type@l;}", ""},
		{"func(t T)q(){t=t.same(t);t=@type@t.g;}", ""},
		{"func f(x int){let x=true;x=@type@1;x=false;}", ""},
		{"func f(o bool,x int){if o{let x=o;x=o;x=@type@1;}x=1;x=@type@o;}", ""},
		{"func f(x []int){x=@type@1;x=@type@new []bool{};}", ""},
	})
}

// P14.3: what is returned.
func TestReturn(t *testing.T) {
	rows(t, usual(t), []row{
		{"func f(){return;}", ""},
		{"func f(){return @return@1;}", "1:int"},
		{"func f(){return @return@h();}", "h:none=a.h  h():none"},
		{"func f(){return @name@@return@y;}", "y:?"},
		{"func f(){return @return@1+@type@true;}", ""},
		{"func f()int{@return@return;}", ""},
		{"func f()int{  @return@return  ;}", ""},
		{"func f()int{return @type@true;}", "true:bool"},
		{"func f()int{return @type@h();}", ""},
		{"func f()int{return @name@y;}", ""},
		{"func f()int{return 1+@type@true;}", ""},
		{"func f()I{return new T{1,new []T{},new b.U{1},new T{@count@}};}", ""},
		{"func f()I{return @type@new Z{};}", ""},
		{"func f()int{if true{return @type@\"\";}return 1;return @type@true;@return@return;}", ""},
		{"func f(){if true{return;}else{return @return@1;}for true{return @return@2;}}", ""},
		{"func(t T)q()T{return t;}", ""},
		{"func(t T)q(){return @return@t;}", ""},
	})
}

// P14.3: a body that does not end in returns.
func TestMissingReturn(t *testing.T) {
	rows(t, usual(t), []row{
		{"func f(){}", ""},
		{"func f(){h();}", ""},
		{"func f()int{@return@}", ""},
		{"func f()int{  @return@}", ""},
		{"func f()int{h();@return@}", ""},
		{"func f()int{return 1;h();@return@}", ""},
		{"func f()int{if true{return 1;}@return@}", ""},
		{"func f()int{if true{return 1;}else{return 2;}}", ""},
		{"func f()int{if true{return 1;}else{}@return@}", ""},
		{"func f()int{if true{}else{return 1;}@return@}", ""},
		{"func f()int{for true{return 1;}@return@}", ""},
		{"func f()int{@return@return;}", ""}, // It ends, in what is wrong for itself.
		{"func f()int{if @type@1{return @type@true;}else{@return@return;}}", ""},
		{"func(t T)q()T{if true{return t;}@return@}", ""},
	})
	// The two errors at one place are told once.
	s := usual(t)
	d := function(t, "func f()int{if true{return;}}")
	d.End = d.Body[0].Body[0].At + 1
	if a := against(t, s, d); spell(a.Wrong) != spell([]api.Diag{{At: d.End - 1, Code: 16}}) {
		t.Errorf("%s", told(a))
	}
}

// P14.3: what branches and loops depend on, and their blocks.
func TestConditions(t *testing.T) {
	rows(t, usual(t), []row{
		{"func f(o bool){if o{}for o{}if o{}else{}}", "o:bool=o@7  o:bool=o@7  o:bool=o@7"},
		{"func f(){if @type@1{}for @type@1{}if @type@\"\"{}else{}}", ""},
		{"func f(t T,l []bool){if @type@t{}for @type@l{}}", ""},
		{"func f[P E](p P){if @type@p{}for @type@p{}}", ""},
		{"func f(){if @type@h(){}for @type@h(){}}", ""},
		{"func f(x V){if x{}for x{}}", ""},
		{"func f(){if @name@x{}for @name@x{}}", "x:?  x:?"},
		{"func f(){if 1<@type@true{}}", ""},
		{"func f(){if @type@1{@name@x;}else{@name@y;}}", "1:int  x:?  y:?"},
		{"func f(){for @type@1{@name@x;}@name@y;}", "1:int  x:?  y:?"},
		{"func f(x int){if x==1{x=2;}else{x=3;}for x<1{x=4;}x=5;}", "x:int=x@7  1:int  x==1:bool  2:int  x:int=x@7  3:int  x:int=x@7  x:int=x@7  1:int  x<1:bool  4:int  x:int=x@7  5:int  x:int=x@7"},
		{"func f(){if true{if @type@1{for @type@2{@name@x;}}else{@name@y;}}}", ""},
	})
	// An else is there if it Has one, and a branch has it alone.
	s := usual(t)
	x := api.Expr{Kind: 3, At: 20, End: 24}
	inner := func(at int) []api.Stmt {
		return []api.Stmt{{Kind: 6, X: api.Expr{Kind: 4, At: at, End: at + 1, Name: "z"}}}
	}
	for _, c := range []struct {
		kind int
		has  bool
		want []api.Diag
	}{
		{4, true, []api.Diag{{At: 30, Code: 10}, {At: 40, Code: 10}}},
		{4, false, []api.Diag{{At: 30, Code: 10}}},
		{5, true, []api.Diag{{At: 30, Code: 10}}},
		{5, false, []api.Diag{{At: 30, Code: 10}}},
	} {
		d := api.Decl{Kind: 3, Body: []api.Stmt{{Kind: c.kind, Has: c.has, X: x, Body: inner(30), Else: inner(40)}}}
		if a := against(t, s, d); spell(a.Wrong) != spell(c.want) || len(a.Uses) != 1+len(c.want) {
			t.Errorf("%v: %s", c, told(a))
		}
	}
}

// P14.3: expressions as statements.
func TestExpressions(t *testing.T) {
	rows(t, usual(t), []row{
		{"func f(){h();}", "h:none=a.h  h():none"},
		{"func f(){b.h();}", "b.h:none=b.h  b.h():none"},
		{"func f(x int){x;1;\"\";!true;new Z{};}", `x:int=x@7  1:int  "":text  true:bool  !true:bool  new Z{}:a.Z`},
		{"func f(){@name@x;1+@type@true;h(1@count@);new Z{1@count@};\"\".@field@x;@call@1();g(@type@h());}", ""},
		{"func f(x int){x+1==g(x);}", "x:int=x@7  1:int  x+1:int  g:none=a.g  x:int=x@7  g(x):int  x+1==g(x):bool"},
		{"func f(x int){(x);}", "x:int=x@7"},
	})
}

// P14.3, R1: statements of no Kind are nothing, whatever they have; what a Kind does not use does not count.
func TestUnknown(t *testing.T) {
	s := usual(t)
	x := api.Expr{Kind: 4, At: 3, End: 4, Name: "none"}
	back := []api.Stmt{{Kind: 3, At: 5, X: x, Has: true}}
	for _, kind := range append(unknown(), 7, 8) {
		st := api.Stmt{Kind: kind, At: 7, Name: "x", Has: true, X: x, Body: back, Else: back}
		d := api.Decl{Kind: 3, End: 9, Body: []api.Stmt{st, {Kind: 1, At: 1, Name: "x"}, st, {Kind: 5, Body: []api.Stmt{st}}}}
		if a := against(t, s, d); spell(a) != spell(answered{}) {
			t.Errorf("%d: %s", kind, told(a))
		}
		d.Has = true
		if a := against(t, s, d); spell(a) != spell(answered{Wrong: []api.Diag{{At: 8, Code: 16}}}) {
			t.Errorf("%d: %s", kind, told(a))
		}
	}
	for _, st := range []api.Stmt{
		{Kind: 1, At: 7, Name: "y", X: x, Has: true, Body: back, Else: back},
		{Kind: 2, At: 7, Name: "p", X: x, Has: true, Body: back, Else: back},
		{Kind: 3, At: 7, Name: "p", X: x, Body: back, Else: back},
		{Kind: 4, At: 7, Name: "p", X: x, Else: back},
		{Kind: 5, At: 7, Name: "p", X: x, Has: true, Else: back},
		{Kind: 6, At: 7, Name: "p", X: x, Has: true, Body: back, Else: back},
	} {
		d := api.Decl{Fields: []api.Param{{Name: "p", T: api.TypeX{Kind: 1}}}, Body: []api.Stmt{st}}
		a := against(t, s, d)
		if want := st.Kind != 3; want != (spell(a.Wrong) == spell([]api.Diag{{At: 3, Code: 10}})) || !want && len(a.Wrong) > 0 {
			t.Errorf("%d: %s", st.Kind, told(a))
		}
	}
	// Names that no parser makes are names too.
	undeclared := api.Expr{Kind: 9, Name: "==", Args: []api.Expr{{Kind: 4, At: 2}, {Kind: 4, At: 3, Name: "none"}}}
	none := against(t, s, api.Decl{Body: []api.Stmt{{Kind: 6, X: undeclared}}})
	if spell(none.Wrong) != spell([]api.Diag{{At: 2, Code: 10}, {At: 3, Code: 10}}) || len(none.Uses) != 3 {
		t.Errorf("%s", told(none))
	}
	empty := api.Decl{Body: []api.Stmt{{Kind: 2, At: 3}, {Kind: 1, At: 4}, {Kind: 1, At: 5}, {Kind: 2, At: 6}, {Kind: 6, X: api.Expr{Kind: 4}}}}
	want := answered{[]api.Diag{{At: 3, Code: 10}, {At: 5, Code: 9}}, []api.Use{{At: 6, End: 6, Def: api.Def{At: 5}}, {Def: api.Def{At: 5}}}}
	if a := against(t, s, empty); spell(a) != spell(want) {
		t.Errorf("%s", told(a))
	}
}

// P14.2, P14.3: errors in order, each once, whatever the places are.
func TestPlaces(t *testing.T) {
	s := usual(t)
	at := []int{0, 5, -1, math.MaxInt, math.MinInt, 1 << 40}
	d := dice(5)
	for _, text := range []string{"func f(x int)int{let x=x;let x=true;x=1;y=2;return;}", "func(t T)q(){return 1;if 1{z;}else{z=h();}for h(){}}", "func f[P I](p P)P{p.m(p);let q=h();if q{return q;}}"} {
		for range 1500 {
			a := against(t, s, replaced(function(t, text), func(int) int { return at[d.below(len(at))] }))
			for i := 1; i < len(a.Wrong); i++ {
				if a.Wrong[i-1].At > a.Wrong[i].At || a.Wrong[i-1].At == a.Wrong[i].At && a.Wrong[i-1].Code >= a.Wrong[i].Code {
					t.Fatalf("%s: %v", text, a.Wrong)
				}
			}
		}
	}
}

// levels is how deep the document's bound permits.
const levels = 1 << 16

// P14.1, P14.3, R1: blocks of many levels, each of which hides what is around it.
func TestDeep(t *testing.T) {
	s := usual(t)
	truth := api.Expr{Kind: 3}
	x := api.Expr{Kind: 4, Name: "x"}
	for _, c := range []struct {
		ends bool
		step func(inner []api.Stmt) api.Stmt
	}{
		{false, func(inner []api.Stmt) api.Stmt { return api.Stmt{Kind: 4, X: truth, Body: inner} }},
		{false, func(inner []api.Stmt) api.Stmt { return api.Stmt{Kind: 5, X: truth, Body: inner} }},
		{true, func(inner []api.Stmt) api.Stmt {
			return api.Stmt{Kind: 4, X: truth, Has: true, Body: inner, Else: []api.Stmt{{Kind: 3, Has: true, X: truth}}}
		}},
		{true, func(inner []api.Stmt) api.Stmt {
			return api.Stmt{Kind: 4, X: truth, Has: true, Body: []api.Stmt{{Kind: 3, Has: true, X: truth}}, Else: inner}
		}},
	} {
		l := []api.Stmt{{Kind: 3, Has: true, X: x}}
		for i := range levels {
			l = []api.Stmt{{Kind: 1, At: i, Name: "x", X: truth}, {Kind: 2, At: -1, Name: "x", X: x}, c.step(l)}
		}
		if body.Ends(l) != c.ends {
			t.Errorf("not %t", c.ends)
		}
		wrong, uses := body.Func(s, api.Decl{Has: true, Result: api.TypeX{Kind: 2}, End: 5, Body: l})
		if c.ends != (len(wrong) == 0) || len(wrong) > 1 || len(uses) < 4*levels+1 || uses[1].Def != (api.Def{Name: "x", At: levels - 1}) {
			t.Errorf("%s, %d Uses", told(wrong), len(uses))
		}
		last := slices.IndexFunc(uses, func(u api.Use) bool { return u.Def.At == 0 })
		if uses[last+1].Def != (api.Def{Name: "x"}) {
			t.Errorf("%v", uses[last+1])
		}
	}
}

// P14.2, P14.3, R1: expressions and types of many levels.
func TestDeepWithin(t *testing.T) {
	s := usual(t)
	x, of := api.Expr{Kind: 4, Name: "x"}, api.TypeX{Kind: 1}
	for range levels {
		x, of = api.Expr{Kind: 10, Args: []api.Expr{x}}, api.TypeX{Kind: 5, Args: []api.TypeX{of}}
	}
	let := api.Stmt{Kind: 1, Name: "x", X: api.Expr{Kind: 3}}
	wrong, uses := body.Func(s, api.Decl{Body: []api.Stmt{let, {Kind: 2, Name: "x", X: x}, {Kind: 4, X: x}, {Kind: 6, X: x}}})
	if len(wrong) > 0 || len(uses) != 3*levels+5 {
		t.Errorf("%s, %d Uses", told(wrong), len(uses))
	}
	name := api.Expr{Kind: 4, At: 7, Name: "p"}
	d := api.Decl{Fields: []api.Param{{Name: "p", T: of}}, Has: true, Result: of, Recv: api.Param{T: of}, Bounds: []api.Param{{T: of}}}
	d.Body = []api.Stmt{{Kind: 2, Name: "p", X: name}, {Kind: 1, Name: "q", X: name}, {Kind: 2, Name: "q", X: name}, {Kind: 3, Has: true, X: name}}
	wrong, uses = body.Func(s, d)
	if len(wrong) > 0 || len(uses) != 6 || !term.Same(uses[1].T, uses[5].T) || uses[1].T.Kind != 5 {
		t.Errorf("%s, %d Uses", told(wrong), len(uses))
	}
	d.Method, d.Body[3].X = true, api.Expr{Kind: 7, At: 9, Args: []api.Expr{name, {Kind: 1}}}
	if wrong, _ = body.Func(s, d); spell(wrong) != spell([]api.Diag{{At: 9, Code: 11}}) {
		t.Errorf("%s", told(wrong))
	}
}

// P14.2, P14.3, R1: many of each.
func TestMany(t *testing.T) {
	const n = 100000
	s := usual(t)
	name := func(i int) string { return "x" + strconv.Itoa(i) }
	first := api.Expr{Kind: 4, Name: name(0)}
	call := api.Expr{Kind: 6, Args: []api.Expr{{Kind: 4, Name: "g"}, first}}
	d := api.Decl{End: 3, Has: true, Result: api.TypeX{Kind: 1}}
	var sum []api.Expr
	for i := range n {
		d.Fields = append(d.Fields, api.Param{Name: name(i), At: i, T: api.TypeX{Kind: 1}})
		d.Body = append(d.Body, api.Stmt{Kind: 1, At: i, Name: "l" + name(i), X: call}, api.Stmt{Kind: 2, Name: "l" + name(i), X: first}, api.Stmt{Kind: 5, X: api.Expr{Kind: 3}, Body: []api.Stmt{{Kind: 1, Name: name(0), X: api.Expr{Kind: 2}}}})
		sum = append(sum, api.Expr{Kind: 4, Name: name(i)}, api.Expr{Kind: 4, Name: "l" + name(i)})
	}
	d.Body = append(d.Body, api.Stmt{Kind: 3, Has: true, X: api.Expr{Kind: 7, Args: []api.Expr{{Kind: 8, T: api.TypeX{Kind: 5, Args: []api.TypeX{{Kind: 1}}}, Args: sum}, {Kind: 1}}}})
	wrong, uses := body.Func(s, d)
	if len(wrong) > 0 || len(uses) != 9*n+3 || uses[len(uses)-4].Def != (api.Def{Name: "l" + name(n-1), At: n - 1}) || uses[len(uses)-5].Def != (api.Def{Name: name(n - 1), At: n - 1}) {
		t.Errorf("%s, %d Uses", told(wrong), len(uses))
	}
	d = api.Decl{}
	for i := range n {
		d.Bounds = append(d.Bounds, api.Param{Name: name(i), T: api.TypeX{Kind: 4, Name: "I"}})
		d.Body = append(d.Body, api.Stmt{Kind: 1, At: n - i, Name: "y", X: api.Expr{Kind: 1}})
	}
	wrong, uses = body.Func(s, d)
	if len(wrong) != n-1 || wrong[0] != (api.Diag{At: 1, Code: 9}) || wrong[n-2] != (api.Diag{At: n - 1, Code: 9}) || len(uses) != n {
		t.Errorf("%s, %d Uses", told(wrong), len(uses))
	}
}
