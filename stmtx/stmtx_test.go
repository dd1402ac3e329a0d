package stmtx_test

import (
	"math"
	"reflect"
	"slices"
	"strings"
	"testing"
	"unsafe"

	"quoin/api"
	"quoin/exprx"
	"quoin/lex"
	"quoin/stmtx"
)

// odd numbers tokens' places as no text does, so that each place tells its token.
func oddAt(i int) int  { return 1000 - 7*i }
func oddEnd(i int) int { return -3 - 5*i }

// tok is a token's kind and text; its place comes from where it stands.
func tok(kind int, text string) api.Token { return api.Token{Kind: kind, Text: text} }

func word(text string) api.Token   { return tok(api.TWord, text) }
func name(text string) api.Token   { return tok(api.TName, text) }
func symbol(text string) api.Token { return tok(api.TSymbol, text) }

func one(tokens ...api.Token) []api.Token { return tokens }

// list places tokens oddly.
func list(parts ...[]api.Token) []api.Token {
	l := slices.Concat(parts...)
	for i := range l {
		l[i].At, l[i].End = oddAt(i), oddEnd(i)
	}
	return l
}

// source is lex's tokens of a text, without the end.
func source(text string) []api.Token {
	l, d := lex.All(text)
	if d != (api.Diag{}) {
		panic("no tokens: " + text)
	}
	return l[:len(l)-1]
}

// texts are the same without their places.
func texts(text string) []api.Token {
	l := source(text)
	for i := range l {
		l[i].At, l[i].End = 0, 0
	}
	return l
}

// sample is a statement's tokens, and the statement, if it begins at token from.
type sample struct {
	tokens []api.Token
	at     func(from int) api.Stmt
}

// expression is what exprx, for which its own tests vouch, makes of tokens that begin at token from.
func expression(x []api.Token, from int) api.Expr {
	l := slices.Clone(x)
	for i := range l {
		l[i].At, l[i].End = oddAt(from+i), oddEnd(from+i)
	}
	e, next, d := exprx.Parse(l, 0)
	if next != len(l) || d != (api.Diag{}) {
		panic("no expression")
	}
	return e
}

func let(text string, x []api.Token) sample {
	return sample{slices.Concat(one(word("let"), name(text), symbol("=")), x, one(symbol(";"))), func(from int) api.Stmt {
		return api.Stmt{Kind: 1, At: oddAt(from), Name: text, X: expression(x, from+3)}
	}}
}

func set(text string, x []api.Token) sample {
	return sample{slices.Concat(one(name(text), symbol("=")), x, one(symbol(";"))), func(from int) api.Stmt {
		return api.Stmt{Kind: 2, At: oddAt(from), Name: text, X: expression(x, from+2)}
	}}
}

func leave() sample {
	return sample{one(word("return"), symbol(";")), func(from int) api.Stmt {
		return api.Stmt{Kind: 3, At: oddAt(from)}
	}}
}

func leaveWith(x []api.Token) sample {
	return sample{slices.Concat(one(word("return")), x, one(symbol(";"))), func(from int) api.Stmt {
		return api.Stmt{Kind: 3, At: oddAt(from), Has: true, X: expression(x, from+1)}
	}}
}

func branch(x []api.Token, body ...sample) sample {
	inside, at := block(body)
	return sample{slices.Concat(one(word("if")), x, inside), func(from int) api.Stmt {
		return api.Stmt{Kind: 4, At: oddAt(from), X: expression(x, from+1), Body: at(from + 1 + len(x))}
	}}
}

// otherwise is a branch with an `else`.
func otherwise(s sample, body ...sample) sample {
	inside, at := block(body)
	return sample{slices.Concat(s.tokens, one(word("else")), inside), func(from int) api.Stmt {
		branch := s.at(from)
		branch.Has, branch.Else = true, at(from+len(s.tokens)+1)
		return branch
	}}
}

func loop(x []api.Token, body ...sample) sample {
	inside, at := block(body)
	return sample{slices.Concat(one(word("for")), x, inside), func(from int) api.Stmt {
		return api.Stmt{Kind: 5, At: oddAt(from), X: expression(x, from+1), Body: at(from + 1 + len(x))}
	}}
}

func valued(x []api.Token) sample {
	return sample{slices.Concat(x, one(symbol(";"))), func(from int) api.Stmt {
		return api.Stmt{Kind: 6, At: oddAt(from), X: expression(x, from)}
	}}
}

// block is the tokens of a block of statements, and the statements, if it begins at token from.
func block(body []sample) ([]api.Token, func(from int) []api.Stmt) {
	l := one(symbol("{"))
	var begins []int
	for _, s := range body {
		begins = append(begins, len(l))
		l = append(l, s.tokens...)
	}
	return append(l, symbol("}")), func(from int) []api.Stmt {
		var statements []api.Stmt
		for i, s := range body {
			statements = append(statements, s.at(from+begins[i]))
		}
		return statements
	}
}

func sameType(a, b api.TypeX) bool {
	return a.Kind == b.Kind && a.At == b.At && a.Pkg == b.Pkg && a.Name == b.Name && slices.EqualFunc(a.Args, b.Args, sameType)
}

func sameExpr(a, b api.Expr) bool {
	return a.Kind == b.Kind && a.At == b.At && a.End == b.End && a.Name == b.Name && a.N == b.N && sameType(a.T, b.T) && slices.EqualFunc(a.Args, b.Args, sameExpr)
}

func same(a, b []api.Stmt) bool {
	return slices.EqualFunc(a, b, func(a, b api.Stmt) bool {
		return a.Kind == b.Kind && a.At == b.At && a.Name == b.Name && a.Has == b.Has && sameExpr(a.X, b.X) && same(a.Body, b.Body) && same(a.Else, b.Else)
	})
}

func wantStmts(t *testing.T, l []api.Token, at int, want []api.Stmt, behind int) {
	t.Helper()
	b, next, d := stmtx.Parse(l, at)
	if !same(b, want) || next != behind || d != (api.Diag{}) {
		t.Errorf("Parse(%v, %d):\n%v, %d, %v; want\n%v, %d", l, at, b, next, d, want, behind)
	}
}

func wantWrong(t *testing.T, l []api.Token, at, place, code int) {
	t.Helper()
	b, next, d := stmtx.Parse(l, at)
	if len(b) != 0 || next != 0 || d != (api.Diag{At: place, Code: code}) {
		t.Errorf("Parse(%v, %d):\n%v, %d, %v; want error %d at %d", l, at, b, next, d, code, place)
	}
}

// wantBlock holds Parse against a block of samples, behind and before other tokens.
func wantBlock(t *testing.T, body ...sample) {
	t.Helper()
	l, at := block(body)
	for _, before := range [][]api.Token{nil, texts("}"), texts("if a { return new a ."), texts("{{{{ x =")} {
		for _, behind := range [][]api.Token{nil, texts(";"), texts("else { }"), texts("} {"), one(tok(api.TEnd, "")), texts("= 1 ; }")} {
			from := len(before)
			wantStmts(t, list(before, l, behind), from, at(from), from+len(l))
		}
	}
}

// wantFault holds that the tokens behind others have an error at the one with this index.
func wantFault(t *testing.T, l []api.Token, wrong, code int) {
	t.Helper()
	for _, before := range [][]api.Token{nil, texts("{ let }")} {
		l := list(before, l)
		place := 0
		switch at := len(before) + wrong; {
		case at < len(l):
			place = oddAt(at)
		case len(l) > 0:
			place = oddEnd(len(l) - 1)
		}
		wantWrong(t, l, len(before), place, code)
	}
}

func TestExamples(t *testing.T) {
	a, x, n := texts("a"), texts("x"), texts("1")
	for text, want := range map[string][]sample{
		"{let x=1;x=2;f(x);return;}": {let("x", n), set("x", texts("2")), valued(texts("f(x)")), leave()},
		"{if a{}else{return 1;}}":    {otherwise(branch(a), leaveWith(n))},
		"{for a<b{}}":                {loop(texts("a<b"))},
		"{x==1;x;}":                  {valued(texts("x==1")), valued(x)},
	} {
		l, at := block(want)
		wantStmts(t, list(texts(text)), 0, at(0), len(l))
	}
	for text, at := range map[string]int{"{x=;}": 3, "{let}": 4, "x": 0} {
		wantWrong(t, source(text), 0, at, api.DSyntax)
	}
}

// The numbers of kinds, codes and limits, as the chapter lists them.
func TestNumbers(t *testing.T) {
	if !slices.Equal([]int{api.SLet, api.SSet, api.SReturn, api.SIf, api.SFor, api.SExpr}, []int{1, 2, 3, 4, 5, 6}) {
		t.Error("kinds")
	}
	if api.DNumber != 2 || api.DText != 3 || api.DSyntax != 5 || api.DDeep != 6 || api.MaxDeep != 30 {
		t.Error("codes, limits")
	}
}

// P5.1: offsets of a text, by hand: a statement begins at its first token, a bracket too.
func TestOffsets(t *testing.T) {
	id := func(text string, at int) api.Expr {
		return api.Expr{Kind: api.EName, Name: text, At: at, End: at + 1}
	}
	number := func(n, at int) api.Expr { return api.Expr{Kind: api.ENum, N: n, At: at, End: at + 1} }
	sum := api.Expr{Kind: api.EBin, Name: "+", At: 1, End: 6, Args: []api.Expr{id("a", 2), id("b", 5)}}
	leave := api.Stmt{Kind: api.SReturn, At: 11}
	inner := api.Stmt{Kind: api.SIf, At: 9, X: id("b", 12), Has: true, Else: []api.Stmt{{Kind: api.SFor, At: 21, X: id("c", 25)}}}
	for text, want := range map[string][]api.Stmt{
		"{}":                              nil,
		" { // a\n } ":                    nil,
		"{ let xy = 1 ; }":                {{Kind: api.SLet, At: 2, Name: "xy", X: number(1, 11)}},
		"{xy=z;z=xy==2;}":                 {{Kind: api.SSet, At: 1, Name: "xy", X: id("z", 4)}, {Kind: api.SSet, At: 6, Name: "z", X: api.Expr{Kind: api.EBin, Name: "==", At: 8, End: 13, Args: []api.Expr{{Kind: api.EName, Name: "xy", At: 8, End: 10}, number(2, 12)}}}},
		"{return;return 1;}":              {{Kind: api.SReturn, At: 1}, {Kind: api.SReturn, At: 8, Has: true, X: number(1, 15)}},
		"{(a)+b;(c);}":                    {{Kind: api.SExpr, At: 1, X: sum}, {Kind: api.SExpr, At: 7, X: id("c", 8)}},
		"{let x=(1);x=(x);}":              {{Kind: api.SLet, At: 1, Name: "x", X: number(1, 8)}, {Kind: api.SSet, At: 11, Name: "x", X: id("x", 14)}},
		"{return (a);}":                   {{Kind: api.SReturn, At: 1, Has: true, X: id("a", 9)}},
		"{if a {\n\t\t\treturn;\n} }":     {{Kind: api.SIf, At: 1, X: id("a", 4), Body: []api.Stmt{leave}}},
		"{if a{}\telse{return;}}":         {{Kind: api.SIf, At: 1, X: id("a", 4), Has: true, Else: []api.Stmt{{Kind: api.SReturn, At: 13}}}},
		"{for(a){b;}}":                    {{Kind: api.SFor, At: 1, X: id("a", 5), Body: []api.Stmt{{Kind: api.SExpr, At: 8, X: id("b", 8)}}}},
		"{for a { if b{}else{ for c{}}}}": {{Kind: api.SFor, At: 1, X: id("a", 5), Body: []api.Stmt{inner}}},
	} {
		l := source(text)
		wantStmts(t, l, 0, want, len(l))
	}
}

// expressions are tokens of expressions of all kinds.
func expressions() [][]api.Token {
	return [][]api.Token{
		texts("a"), texts("1"), texts(`"a; }"`), texts("true"), texts("false"), texts("f()"), texts("a.b"), texts("a[0]"),
		texts("new T{}"), texts("new []a.T{x,y}"), texts("new T{new T{}}.f"), texts("!a"), texts("(a)"), texts("((a)+(b))"),
		texts("a==b"), texts("a<b&&!c"), texts("f(new T{}, a==b)[i].g(h)*2"), texts("(new int{})"), texts("(a)==b"),
		one(name("let"), symbol("("), name("if"), symbol(")")), one(name(""), symbol("."), name("=")),
	}
}

// simple are statements without blocks, of each kind, with an expression.
func simple(x []api.Token) []sample {
	return []sample{let("v", x), set("v", x), leave(), leaveWith(x), valued(x)}
}

// P5.1: each kind of statement, with expressions of all kinds, and each two behind one another.
func TestKinds(t *testing.T) {
	wantBlock(t)
	for _, x := range expressions() {
		all := slices.Concat(simple(x), []sample{branch(x), branch(x, leave()), otherwise(branch(x)), otherwise(branch(x, leave()), set("y", x)), loop(x), loop(x, valued(x))})
		wantBlock(t, all...)
		for _, s := range all {
			wantBlock(t, s)
			wantBlock(t, branch(x, s))
			wantBlock(t, otherwise(branch(x), s))
			wantBlock(t, loop(x, s))
			for _, o := range all {
				wantBlock(t, s, o)
				wantBlock(t, otherwise(branch(x, s, o), o, s), loop(x, o, o))
			}
		}
	}
}

// P5.1: a TName may have any text, that of a word or symbol too, or none.
func TestNames(t *testing.T) {
	x := texts("a")
	for _, text := range []string{"x", "_1", "let", "return", "if", "else", "for", "new", "true", "", "=", "{", "}", ";", "\x00\xff", strings.Repeat("n", 500)} {
		wantBlock(t, let(text, x), set(text, x), valued(one(name(text))), valued(one(name(text), symbol("=="), name(text))))
		wantBlock(t, set(text, one(name(text))), leaveWith(one(name(text))), branch(one(name(text))), valued(one(name(text))))
		wantBlock(t, branch(x), valued(one(name(text))))
	}
}

// P5.1: only a TName with a TSymbol `=` behind it sets a variable.
func TestSetOrValue(t *testing.T) {
	for _, text := range []string{"x==a", "x.y", "x(a)", "x[a]", "x+a", "x-a", "x*a", "x<a", "x&&a", "x"} {
		wantBlock(t, valued(texts(text)))
		wantBlock(t, set("x", texts(text)), valued(texts(text)), let("x", texts(text)))
	}
	for _, before := range []string{"x.y", "x()", "x[0]", "(x)", "!x", "1", "true", `"x"`, "new x{}", "x+x", "x*x", "x==x"} {
		l := texts(before)
		wantFault(t, slices.Concat(texts("{"), l, texts("=1;}")), 1+len(l), api.DSyntax)
	}
	for _, s := range []api.Token{name("="), word("="), tok(api.TText, "="), tok(api.TEnd, "="), tok(7, "="), symbol("= "), symbol("=x"), symbol("")} {
		wantFault(t, slices.Concat(texts("{x"), one(s), texts("1;}")), 2, api.DSyntax)
	}
	for _, s := range []api.Token{word("x"), symbol("x"), tok(api.TEnd, "x"), tok(9, "x")} {
		wantFault(t, slices.Concat(texts("{"), one(s), texts("=1;}")), 1, api.DSyntax)
	}
	wantFault(t, texts("{x= =1;}"), 3, api.DSyntax)
	wantFault(t, texts("{x=y=1;}"), 4, api.DSyntax)
	wantFault(t, texts("{let x=y=1;}"), 5, api.DSyntax)
	wantFault(t, texts("{x==;}"), 3, api.DSyntax)
}

// P5.1: an `if` has one `else` at most, and this a block.
func TestElse(t *testing.T) {
	a, b := texts("a"), texts("b")
	wantBlock(t, otherwise(branch(a, branch(b))), branch(b))
	wantBlock(t, branch(a, otherwise(branch(b))))
	wantBlock(t, otherwise(branch(a, otherwise(branch(b))), otherwise(branch(a))))
	wantBlock(t, branch(a), valued(one(name("else"))))
	wantFault(t, texts("{if a{}else if b{}}"), 6, api.DSyntax)
	wantFault(t, texts("{if a{}else{}else{}}"), 8, api.DSyntax)
	wantFault(t, texts("{if a else{}}"), 3, api.DSyntax)
	wantFault(t, texts("{if a{};else{}}"), 5, api.DSyntax)
	wantFault(t, texts("{for a{}else{}}"), 5, api.DSyntax)
	wantFault(t, texts("{else{}}"), 1, api.DSyntax)
	wantFault(t, texts("{if a{else{}}}"), 4, api.DSyntax)
	wantFault(t, texts("{return;else{}}"), 3, api.DSyntax)
}

// around are texts ahead of a place where a statement may begin, in blocks of all kinds.
func around() []string {
	return []string{
		"{",
		"{x;return;",
		"{let x=1;x=2;",
		"{if a{}",
		"{for a{x;}",
		"{if a{}else{}",
		"{if a{",
		"{if a{x;}else{",
		"{for a{return 1;}for b{return;",
		"{for a{if b{}else{if c{}else{for d{x=1;if e{}",
	}
}

// strangers are tokens with which nothing begins, ends or goes on.
func strangers() []api.Token {
	l := []api.Token{
		tok(api.TEnd, ""), tok(api.TEnd, "a"), tok(api.TEnd, "("), tok(api.TEnd, "let"), tok(api.TEnd, "}"),
		word(""), word("a"), word("Let"), word("let "), word("retur"), word("iff"), word("("), word("{"), word("}"), word(";"), word("="), word("1"),
		symbol(""), symbol("a"), symbol("let"), symbol("if"), symbol("for"), symbol("return"), symbol("else"), symbol("{}"), symbol("{ "), symbol(";;"), symbol("!="), symbol("&"),
		tok(-1, "a"), tok(6, "a"), tok(6, "{"), tok(7, "}"), tok(99, ";"), tok(math.MinInt, "let"), tok(7, "if"), tok(math.MaxInt, "return"),
	}
	for _, s := range strings.Fields("package import type struct interface func int bool text") {
		l = append(l, word(s))
	}
	return append(l, texts(") ] ,")...)
}

// own are the words and symbols of statements.
func own() []api.Token { return texts("let return if for else { } ; =") }

// between are those that go an expression on, with which none begins.
func between() []api.Token { return texts("[ . == && < + - *") }

// openings are tokens with which an expression begins; the `(` goes one on, too.
func openings() []api.Token {
	return one(name("a"), name("{"), name("}"), name(";"), name("="), name("else"), tok(api.TNumber, "1"), tok(api.TText, `";"`), word("true"), word("new"), symbol("!"), symbol("("))
}

// faulty are tokens that are in error themselves where an expression begins.
func faulty() []api.Token {
	return one(tok(api.TNumber, ""), tok(api.TNumber, "x"), tok(api.TText, ""), tok(api.TText, "{"))
}

// all are all of these but for some.
func all(some ...api.Token) []api.Token {
	l := slices.Concat(strangers(), own(), between(), openings(), faulty())
	return slices.DeleteFunc(l, func(t api.Token) bool { return slices.Contains(some, t) })
}

// noExpression are those with which no expression begins, but for some.
func noExpression(some ...api.Token) []api.Token {
	return all(slices.Concat(openings(), faulty(), some)...)
}

// noGoingOn are those that may not stand behind an expression, but for some.
func noGoingOn(some ...api.Token) []api.Token {
	return all(slices.Concat(between(), texts("("), some)...)
}

// wantMisplaced holds that each of these tokens may not stand behind others, whatever follows it; nor may the tokens end there.
func wantMisplaced(t *testing.T, before []api.Token, wrong []api.Token) {
	t.Helper()
	for _, s := range wrong {
		for _, behind := range [][]api.Token{nil, texts("}"), texts("x;}"), texts("{}}"), texts("=1;}}"), faulty()} {
			wantFault(t, slices.Concat(before, one(s), behind), len(before), api.DSyntax)
		}
	}
	wantFault(t, before, len(before), api.DSyntax)
}

// P5.2: a block begins with a `{`.
func TestNoBlock(t *testing.T) {
	wantMisplaced(t, nil, all(symbol("{")))
	for _, before := range around() {
		wantMisplaced(t, texts(before+" if a{}else"), all(symbol("{")))
	}
}

// P5.2: a token with which no statement begins, where one may begin, and the end of the tokens there.
func TestNoStatement(t *testing.T) {
	for _, before := range around() {
		right := texts("let return if for }")
		if strings.HasSuffix(before, "if a{}") || strings.HasSuffix(before, "if e{}") {
			right = append(right, word("else"))
		}
		wantMisplaced(t, texts(before), noExpression(right...))
	}
}

// places are texts ahead of a place within a statement, and the tokens that are wrong there.
func places() map[string][]api.Token {
	isName := func(t api.Token) bool { return t.Kind == api.TName }
	assign, semicolon, brace := symbol("="), symbol(";"), symbol("{")
	return map[string][]api.Token{
		"let":            slices.DeleteFunc(all(), isName),
		"let x":          all(assign),
		"let x=":         noExpression(),
		"let x=a":        noGoingOn(semicolon),
		"let x=a+b":      noGoingOn(semicolon),
		"x=":             noExpression(),
		"x=a":            noGoingOn(semicolon),
		"x=new T{}":      noGoingOn(semicolon),
		"return":         noExpression(semicolon),
		"return a":       noGoingOn(semicolon),
		"return f(a)":    noGoingOn(semicolon),
		"if":             noExpression(),
		"if a":           noGoingOn(brace),
		"if new T{}":     noGoingOn(brace),
		"for":            noExpression(),
		"for a<b":        noGoingOn(brace),
		"for (new T{})":  noGoingOn(brace),
		"a":              noGoingOn(assign, semicolon),
		"1":              noGoingOn(semicolon),
		"f(a)":           noGoingOn(semicolon),
		"if a{x":         noGoingOn(assign, semicolon),
		"if a{}else{let": slices.DeleteFunc(all(), isName),
		"for a{return":   noExpression(semicolon),
	}
}

// P5.2: what may not stand within a statement, in place of each name, `=`, `;`, `{` and expression, and the end of the tokens there.
func TestWithin(t *testing.T) {
	for text, wrong := range places() {
		for _, before := range around() {
			wantMisplaced(t, texts(before+" "+text), wrong)
		}
	}
}

// awaiting are texts behind which an expression must begin, in a block.
func awaiting() []string {
	var l []string
	for _, before := range around() {
		for _, text := range []string{"", " let x=", " x=", " return ", " if ", " for ", " let x=a;x=b;if f(x){return ", " for a{}"} {
			l = append(l, before+text)
		}
	}
	return l
}

// P5.2: an error within an expression is that of exprx, with its code and place.
func TestWrongExpression(t *testing.T) {
	of := slices.Repeat(texts("[]"), 31)
	for _, text := range awaiting() {
		before := texts(text)
		for _, behind := range [][]api.Token{nil, texts(";}"), texts("{}}"), texts(";let }"), faulty()} {
			want := func(wrong, code int, parts ...[]api.Token) {
				t.Helper()
				l := slices.Concat(before, slices.Concat(parts...), behind)
				wantFault(t, l, len(before)+wrong, code)
			}
			for _, s := range faulty() {
				code := map[int]int{api.TNumber: api.DNumber, api.TText: api.DText}[s.Kind]
				want(0, code, one(s))
				want(1, code, texts("!"), one(s))
				want(2, code, texts("a+"), one(s))
				want(4, code, texts("f(b,"), one(s), texts(")"))
				want(3, code, texts("new T{"), one(s))
			}
			want(2, api.DSyntax, texts("a+)"))
			want(2, api.DSyntax, texts("a.1"))
			want(2, api.DSyntax, texts("f(,)"))
			want(3, api.DSyntax, texts("f[a;]"))
			want(3, api.DSyntax, texts("f(a}"))
			want(1, api.DSyntax, texts("new ("))
			want(2, api.DSyntax, texts("new T;"))
			want(3, api.DSyntax, texts("new a.{"))
			want(30, api.DDeep, slices.Repeat(texts("("), 31), texts("a"), slices.Repeat(texts(")"), 31))
			want(30, api.DDeep, slices.Repeat(texts("!"), 40))
			want(61, api.DDeep, one(word("new")), of, texts("int{}"))
		}
	}
}

// P5.2: of several errors the first one from the left is told.
func TestFirstError(t *testing.T) {
	num, text := one(tok(api.TNumber, "x")), one(tok(api.TText, "x"))
	for _, c := range []struct {
		wrong, code int
		l           []api.Token
	}{
		{1, api.DNumber, slices.Concat(texts("{"), num, text, texts("let let"))},
		{1, api.DText, slices.Concat(texts("{"), text, num)},
		{2, api.DSyntax, slices.Concat(texts("{let"), num, texts("="), text)},
		{3, api.DSyntax, slices.Concat(texts("{let x"), num, text)},
		{4, api.DNumber, slices.Concat(texts("{let x="), num, texts("let"), text)},
		{5, api.DSyntax, slices.Concat(texts("{let x=a"), num, texts("let"), text)},
		{3, api.DNumber, slices.Concat(texts("{x="), num, texts("}"), text)},
		{2, api.DText, slices.Concat(texts("{return"), text, num)},
		{3, api.DSyntax, slices.Concat(texts("{return a"), text, num)},
		{2, api.DNumber, slices.Concat(texts("{if"), num, texts("let;"))},
		{3, api.DSyntax, slices.Concat(texts("{if a"), num, texts("{let"))},
		{4, api.DText, slices.Concat(texts("{if a{"), text, texts("}else let"))},
		{6, api.DSyntax, slices.Concat(texts("{if a{}else"), num, texts("}"))},
		{7, api.DNumber, slices.Concat(texts("{if a{}else{"), num, text)},
		{5, api.DSyntax, slices.Concat(texts("{for a{};"), num, text)},
		{0, api.DSyntax, slices.Concat(num, texts("{let"), text)},
		{1, api.DSyntax, slices.Concat(slices.Repeat(texts("{"), 40), num)},
	} {
		wantFault(t, c.l, c.wrong, c.code)
	}
	// A block ends ahead of what would be wrong in it.
	for _, behind := range [][]api.Token{num, text, texts("}"), texts("let let"), texts("else")} {
		wantStmts(t, list(texts("{return;}"), behind), 0, []api.Stmt{leave().at(1)}, 4)
	}
}

// opener puts statements into a block of its own: before are the tokens ahead of them, of which the one at first is the first that opens a block.
type opener struct {
	before []api.Token
	first  int
	put    func(body ...sample) sample
}

func openers() []opener {
	a, made := texts("a"), texts("new T{b}")
	return []opener{
		{texts("if a{"), 2, func(body ...sample) sample { return branch(a, body...) }},
		{texts("if a{}else{"), 2, func(body ...sample) sample { return otherwise(branch(a), body...) }},
		{texts("for a{"), 2, func(body ...sample) sample { return loop(a, body...) }},
		{texts("if new T{b}{"), 6, func(body ...sample) sample { return branch(made, body...) }},
		{texts("if a{return;}else{"), 2, func(body ...sample) sample { return otherwise(branch(a, leave()), body...) }},
		{texts("for new T{b}{"), 6, func(body ...sample) sample { return loop(made, body...) }},
	}
}

// nest is what lies in so many openers, chosen by their place, and the tokens ahead of it.
func nest(n int, choose func(i int) opener, body ...sample) ([]sample, []api.Token) {
	var before []api.Token
	for i := range n {
		before = append(before, choose(i).before...)
	}
	for i := n - 1; i >= 0; i-- {
		body = []sample{choose(i).put(body...)}
	}
	return body, before
}

// choices are rules by which to choose openers: one alone, two in turn, and all.
func choices() []func(i int) opener {
	all := openers()
	l := []func(i int) opener{func(i int) opener { return all[i%len(all)] }, func(i int) opener { return all[i*i/3%len(all)] }}
	for _, o := range all {
		for _, p := range all {
			l = append(l, func(i int) opener {
				if i%2 == 0 {
					return o
				}
				return p
			})
		}
	}
	return l
}

// innermost are a block's `{` that has 29 around it, and the tokens ahead of it.
func innermost(choose func(i int) opener) []api.Token {
	_, before := nest(29, choose)
	return slices.Concat(texts("{"), before)
}

// P5.2: 30 blocks may be nested, the outermost one counted; the 31st is DDeep at its `{`, whatever follows it.
func TestDeep(t *testing.T) {
	for _, choose := range choices() {
		for _, body := range [][]sample{nil, {leave()}, simple(texts("f(new T{a})"))} {
			s, _ := nest(29, choose, body...)
			wantBlock(t, s...)
		}
		before := slices.Concat(innermost(choose), texts("x;"))
		for _, o := range openers() {
			until, n := slices.Concat(before, o.before[:o.first+1]), len(before)+o.first
			for _, behind := range [][]api.Token{nil, texts("}"), texts("let"), texts(";"), faulty(), slices.Repeat(texts("if a{"), 50)} {
				wantFault(t, slices.Concat(until, behind), n, api.DDeep)
			}
			for _, body := range [][]sample{nil, {leave()}} {
				more, _ := nest(29, choose, leave(), o.put(body...), leave())
				l, _ := block(more)
				wantFault(t, l, len(before)+o.first, api.DDeep)
			}
		}
	}
	wantFault(t, slices.Concat(texts("{"), slices.Repeat(texts("if a{"), 100000)), 90, api.DDeep)
	wantFault(t, slices.Concat(texts("{"), slices.Repeat(texts("if a{}else{"), 100000)), 29*6+3, api.DDeep)
	// With a block a statement does not begin, and without one its `{` counts for nothing.
	wantFault(t, slices.Repeat(texts("{"), 31), 1, api.DSyntax)
}

// P5.2: what is wrong ahead of a `{` that is too deep is told first.
func TestAheadOfDeep(t *testing.T) {
	for _, choose := range choices() {
		before := innermost(choose)
		n := len(before)
		wantFault(t, slices.Concat(before, texts("{")), n, api.DSyntax)
		wantFault(t, slices.Concat(before, texts("if{")), n+1, api.DSyntax)
		wantFault(t, slices.Concat(before, texts("for a;{")), n+2, api.DSyntax)
		wantFault(t, slices.Concat(before, texts("if a")), n+2, api.DSyntax)
		wantFault(t, slices.Concat(before, texts("if a let{")), n+2, api.DSyntax)
		wantFault(t, slices.Concat(before, texts("if new T{")), n+4, api.DSyntax)
		wantFault(t, slices.Concat(before, texts("let x=a{")), n+4, api.DSyntax)
		for _, s := range faulty() {
			code := map[int]int{api.TNumber: api.DNumber, api.TText: api.DText}[s.Kind]
			wantFault(t, slices.Concat(before, texts("if"), one(s), texts("{")), n+1, code)
		}
		wantFault(t, slices.Concat(before, texts("if"), slices.Repeat(texts("("), 31), texts("{")), n+31, api.DDeep)
	}
}

// P5.2: a block that has ended does not count: beside one another there may be any number.
func TestBeside(t *testing.T) {
	a := texts("a")
	var siblings []sample
	for i := range 90 {
		siblings = append(siblings, openers()[i%6].put(leave()))
	}
	for _, choose := range choices() {
		s, _ := nest(28, choose, siblings...)
		wantBlock(t, s...)
	}
	all := choices()[0]
	deep, _ := nest(28, all, leave())
	wantBlock(t, slices.Concat(deep, deep, deep, []sample{leave()}, deep)...)
	wantBlock(t, otherwise(branch(a, deep...), deep...), loop(a, deep...), branch(a, slices.Concat(deep, deep)...))
	deeper, _ := nest(29, all, leave())
	wantBlock(t, slices.Concat(deeper, siblings, deeper)...)
	l, _ := block([]sample{siblings[0], branch(a, deeper...)})
	_, before := nest(28, all)
	wantFault(t, l, 1+len(siblings[0].tokens)+3+len(before)+all(28).first, api.DDeep)
}

// within puts what is between two texts into itself so many times; token into of the first text counts for its depth.
type within struct {
	before, behind string
	into           int
}

func withins() []within {
	return []within{{"(", ")", 0}, {"!", "", 0}, {"f(", ")", 1}, {"f(a,", ")", 1}, {"f[", "]", 1}, {"new T{", "}", 2}, {"new []T{b,", "}", 4}}
}

func (w within) nested(n int) []api.Token {
	return slices.Concat(slices.Repeat(texts(w.before), n), texts("a"), slices.Repeat(texts(w.behind), n))
}

// P5.1, P5.2: blocks and expressions are counted each for themselves: both may be as deep as their chapters permit.
func TestDeepExpressions(t *testing.T) {
	for _, choose := range choices()[:2] {
		before := innermost(choose)
		for _, w := range withins() {
			x, more := w.nested(30), w.nested(31)
			s, _ := nest(29, choose, slices.Concat(simple(x), simple(x))...)
			wantBlock(t, s...)
			s, _ = nest(28, choose, branch(x), loop(x, valued(x)), otherwise(branch(x, valued(x)), leaveWith(x)))
			wantBlock(t, s...)
			wrong := 30*len(texts(w.before)) + w.into
			for _, text := range []string{"", "x;", "let x=", "x=", "return ", "if ", "for "} {
				ahead := slices.Concat(before, texts(text))
				wantFault(t, slices.Concat(ahead, more, texts(";{}}")), len(ahead)+wrong, api.DDeep)
				wantFault(t, slices.Concat(texts("{"), texts(text), more, texts(";{}}")), 1+len(texts(text))+wrong, api.DDeep)
			}
			for _, text := range []string{"if ", "for "} {
				ahead := slices.Concat(before, texts(text), x)
				wantFault(t, slices.Concat(ahead, texts("{}}")), len(ahead), api.DDeep)
			}
		}
	}
}

// P5.1: where there is no token, there is an end, at the last one's End.
func TestNoToken(t *testing.T) {
	for _, l := range [][]api.Token{nil, {}, list(texts("{}"))[:0]} {
		for _, at := range []int{0, 1, -1, 61, math.MaxInt, math.MaxInt - 1, math.MinInt} {
			wantWrong(t, l, at, 0, api.DSyntax)
		}
	}
	for _, end := range []int{0, 1, 77, -5, math.MaxInt, math.MinInt} {
		for _, text := range []string{"{}", "{", "a", "{return;}", "let"} {
			l := list(texts(text))
			l[len(l)-1].End = end
			for _, at := range []int{len(l), len(l) + 1, len(l) + 100, -1, -2, -len(l), math.MaxInt, math.MaxInt - 1, math.MinInt, math.MinInt + 1} {
				wantWrong(t, l, at, end, api.DSyntax)
			}
		}
		// The tokens end within a block, wherever.
		for _, before := range around() {
			for text := range places() {
				for _, more := range []string{"", " " + text} {
					l := list(texts(before + more))
					l[len(l)-1].End = end
					wantWrong(t, l, 0, end, api.DSyntax)
				}
			}
		}
	}
}

// P5.1: a TEnd among the tokens is a token, and ends nothing.
func TestEndWithin(t *testing.T) {
	for _, text := range []string{"{let x=a;}", "{x=a;}", "{return a;}", "{if a{}else{}}", "{for a{}}", "{f(a);}"} {
		l := texts(text)
		for i := range l {
			for _, end := range []api.Token{tok(api.TEnd, ""), tok(api.TEnd, l[i].Text)} {
				wantFault(t, slices.Insert(slices.Clone(l), i, end), i, api.DSyntax)
				wantFault(t, slices.Replace(slices.Clone(l), i, i+1, end), i, api.DSyntax)
			}
		}
	}
}

// P5.1: a token is judged by its Kind and Text alone: any places are answered as they are.
func TestPlaces(t *testing.T) {
	for _, at := range []int{0, -1, 5, math.MaxInt, math.MinInt} {
		for _, end := range []int{0, -1, 5, math.MaxInt, math.MinInt} {
			put := func(text string) []api.Token {
				l := texts(text)
				for i := range l {
					l[i].At, l[i].End = at, end
				}
				return l
			}
			a := api.Expr{Kind: api.EName, Name: "a", At: at, End: end}
			leave := []api.Stmt{{Kind: api.SReturn, At: at}}
			wantStmts(t, put("{let x=a;x=a;return a;a;}"), 0, []api.Stmt{{Kind: api.SLet, At: at, Name: "x", X: a}, {Kind: api.SSet, At: at, Name: "x", X: a}, {Kind: api.SReturn, At: at, Has: true, X: a}, {Kind: api.SExpr, At: at, X: a}}, 16)
			wantStmts(t, put("{if a{return;}else{return;}}"), 0, []api.Stmt{{Kind: api.SIf, At: at, X: a, Body: leave, Has: true, Else: leave}}, 13)
			wantStmts(t, put("{for a{return;}}"), 0, []api.Stmt{{Kind: api.SFor, At: at, X: a, Body: leave}}, 8)
			for _, text := range []string{"}", "{;}", "{let;", "{x=;}", "{if a;}", "{else{}}"} {
				wantWrong(t, put(text), 0, at, api.DSyntax)
			}
			wantWrong(t, put("{"+strings.Repeat("if a{", 30)), 0, at, api.DDeep)
			wantWrong(t, put("{"), 0, end, api.DSyntax)
		}
	}
}

// model parses without recursion: it has a stack of the blocks that are open, and puts each one that closes into the statement before it.
type model struct {
	l    []api.Token
	at   int
	open [][]api.Stmt
}

func (m *model) look(i int) api.Token {
	if i < 0 || i >= len(m.l) {
		if len(m.l) == 0 {
			return api.Token{}
		}
		return api.Token{At: m.l[len(m.l)-1].End, End: m.l[len(m.l)-1].End}
	}
	return m.l[i]
}

func (m *model) is(kind int, text string) bool {
	return m.look(m.at).Kind == kind && m.look(m.at).Text == text
}

func (m *model) want(kind int, text string) {
	if !m.is(kind, text) {
		panic(api.Diag{At: m.look(m.at).At, Code: 5})
	}
	m.at++
}

func (m *model) begin() {
	at := m.look(m.at).At
	m.want(4, "{")
	if len(m.open) == 30 {
		panic(api.Diag{At: at, Code: 6})
	}
	m.open = append(m.open, nil)
}

func (m *model) value(s *api.Stmt) {
	x, next, d := exprx.Parse(m.l, m.at)
	if d.Code != 0 {
		panic(d)
	}
	s.X, m.at = x, next
}

// close ends the innermost block.
func (m *model) close() (whole []api.Stmt, last bool) {
	m.at++
	n := len(m.open) - 1
	body := m.open[n]
	m.open = m.open[:n]
	if n == 0 {
		return body, true
	}
	s := &m.open[n-1][len(m.open[n-1])-1]
	switch {
	case s.Has:
		s.Else = body
	default:
		s.Body = body
		if s.Kind == 4 && m.is(5, "else") {
			m.at++
			s.Has = true
			m.begin()
		}
	}
	return nil, false
}

func (m *model) statement() {
	t := m.look(m.at)
	s := api.Stmt{At: t.At}
	word := ""
	if t.Kind == 5 {
		word = t.Text
	}
	switch {
	case word == "if" || word == "for":
		s.Kind = map[string]int{"if": 4, "for": 5}[word]
		m.at++
		m.value(&s)
		m.open[len(m.open)-1] = append(m.open[len(m.open)-1], s)
		m.begin()
		return
	case word == "return":
		s.Kind = 3
		m.at++
		if !m.is(4, ";") {
			s.Has = true
			m.value(&s)
		}
	case word == "let":
		s.Kind, s.Name = 1, m.look(m.at+1).Text
		m.at++
		m.want(1, s.Name)
		m.want(4, "=")
		m.value(&s)
	case t.Kind == 1 && m.look(m.at+1).Kind == 4 && m.look(m.at+1).Text == "=":
		s.Kind, s.Name = 2, t.Text
		m.at += 2
		m.value(&s)
	default:
		s.Kind = 6
		m.value(&s)
	}
	m.want(4, ";")
	m.open[len(m.open)-1] = append(m.open[len(m.open)-1], s)
}

func modelled(l []api.Token, at int) (b []api.Stmt, next int, d api.Diag) {
	defer func() {
		if thrown := recover(); thrown != nil {
			b, next, d = nil, 0, thrown.(api.Diag)
		}
	}()
	m := model{l: l, at: at}
	m.begin()
	for {
		if !m.is(4, "}") {
			m.statement()
		} else if whole, last := m.close(); last {
			return whole, m.at, api.Diag{}
		}
	}
}

// against holds Parse against the model.
func against(t *testing.T, l []api.Token, at int) {
	t.Helper()
	want, behind, wrong := modelled(l, at)
	b, next, d := stmtx.Parse(l, at)
	if !same(b, want) || next != behind || d != wrong {
		t.Fatalf("Parse(%v, %d):\n%v, %d, %v; want\n%v, %d, %v", l, at, b, next, d, want, behind, wrong)
	}
	if d == (api.Diag{}) && next <= at+1 {
		t.Fatalf("Parse(%v, %d): the index behind it: %d", l, at, next)
	}
}

// againstAll holds Parse against the model, from begin on, on all lists of up to so many tokens of an alphabet.
func againstAll(t *testing.T, alphabet []api.Token, most int, begin []api.Token) {
	l := make([]api.Token, len(begin), len(begin)+most)
	copy(l, begin)
	l = list(l)
	var longer func(n int)
	longer = func(n int) {
		against(t, l, 0)
		if n == most {
			return
		}
		for _, s := range alphabet {
			s.At, s.End = oddAt(len(l)), oddEnd(len(l))
			l = append(l, s)
			longer(n + 1)
			l = l[:len(l)-1]
		}
	}
	longer(0)
}

// P5.1, P5.2: all short lists of tokens, of all kinds and of some.
func TestAllLists(t *testing.T) {
	everything := slices.Concat(own(), texts("a 1 new true ! ( ) + =="), one(tok(api.TText, "x"), tok(api.TEnd, "")))
	againstAll(t, everything, 3, nil)
	againstAll(t, everything, 4, texts("{"))
	againstAll(t, everything, 3, texts("{if a{}else{a;}"))
	againstAll(t, texts("let a = ; }"), 7, texts("{"))
	againstAll(t, texts("return a ; } {"), 7, texts("{"))
	againstAll(t, texts("if else a { }"), 7, texts("{"))
	againstAll(t, texts("if a { } ;"), 6, texts("{if a{}"))
	againstAll(t, texts("for else a { } ;"), 6, texts("{"))
	againstAll(t, texts("if new a { } ;"), 6, texts("{"))
	_, before := nest(28, choices()[0])
	againstAll(t, texts("if else for a { }"), 6, slices.Concat(texts("{"), before))
}

// rule is a fixed rule that shuffles.
type rule uint32

func (r *rule) below(n int) int {
	*r = *r*1664525 + 1013904223
	return int(*r>>16) % n
}

// values are put into what grows.
var values = expressions()

// grown are some statements, at most so deep.
func (r *rule) grown(deep int) []sample {
	var l []sample
	for range r.below(5) {
		l = append(l, r.statement(deep))
	}
	return l
}

func (r *rule) statement(deep int) sample {
	x := values[r.below(len(values))]
	if deep == 0 || r.below(3) == 0 {
		return simple(x)[r.below(5)]
	}
	switch r.below(3) {
	case 0:
		return branch(x, r.grown(deep-1)...)
	case 1:
		return otherwise(branch(x, r.grown(deep-1)...), r.grown(deep-1)...)
	}
	return loop(x, r.grown(deep-1)...)
}

// P5.1: blocks of all kinds in one another, in an order that a fixed rule shuffles.
func TestGrown(t *testing.T) {
	r := rule(1)
	for i := range 600 {
		wantBlock(t, r.grown(i%5)...)
	}
}

// P5.2: the same with a token put in, taken out or changed, from each of some indices on.
func TestSpoilt(t *testing.T) {
	r := rule(2)
	others := all()
	for i := range 6000 {
		l, _ := block(r.grown(i % 5))
		for range 1 + i%2 {
			at, other := r.below(len(l)), others[r.below(len(others))]
			switch r.below(3) {
			case 0:
				l = slices.Insert(l, at, other)
			case 1:
				l[at] = other
			default:
				l = append(slices.Delete(l, at, at+1), symbol(";"))
			}
		}
		l = list(l)
		against(t, l, 0)
		against(t, l, r.below(len(l)))
	}
}

// P5.3: what follows a block does not matter, be it what it may: any tokens, and any number of them.
func TestFollowing(t *testing.T) {
	r := rule(3)
	for i := range 60 {
		l, at := block(r.grown(i % 4))
		for _, s := range all() {
			wantStmts(t, list(l, one(s)), 0, at(0), len(l))
			wantStmts(t, list(l, one(s, s), l), 0, at(0), len(l))
		}
		wantStmts(t, list(l, slices.Repeat(texts("if a{"), 100)), 0, at(0), len(l))
		wantStmts(t, list(l, l), len(l), at(len(l)), 2*len(l))
	}
}

// P5.3: the statements of two blocks, written in one block with the places that they had, are those of both, one after the other.
func TestJoined(t *testing.T) {
	r := rule(4)
	for i := range 400 {
		first, _ := block(r.grown(i % 4))
		second, _ := block(r.grown(i / 4 % 4))
		both := list(first, second)
		one, behind, _ := stmtx.Parse(both, 0)
		two, end, _ := stmtx.Parse(both, behind)
		if behind != len(first) || end != len(both) {
			t.Fatalf("%v: %d, %d", both, behind, end)
		}
		joined := slices.Delete(slices.Clone(both), behind-1, behind+1)
		wantStmts(t, joined, 0, slices.Concat(one, two), len(joined))
	}
}

// R1: no index, kind or text makes it panic.
func TestNoPanic(t *testing.T) {
	for _, s := range all() {
		for _, at := range []int{math.MinInt, -1, 0, 1, 2, 3, math.MaxInt} {
			against(t, list(one(s)), at)
			against(t, list(one(s, s)), at)
			against(t, list(texts("{"), one(s, s)), at)
			against(t, list(texts("{a"), one(s), texts("{}}")), at)
		}
	}
	// A list that is long, and one that is cut off everywhere.
	many := slices.Repeat([]sample{valued(texts("f(a)")), branch(texts("a"), leave())}, 5000)
	wantBlock(t, many...)
	l, _ := block(many[:4])
	for n := range l {
		for at := range l {
			against(t, list(l)[:n], at)
		}
	}
}

// R4: the tokens stay as they are, those in the spare capacity too, and these are not read.
func TestArgument(t *testing.T) {
	for _, text := range []string{"{let x=f(1);x=2;return x;}", "{if a{b;}else{return;}for c{}}", "{x=;}", "{if a{", "{{}"} {
		all := source(text)
		before := slices.Clone(all)
		for n := range len(all) + 1 {
			short, clipped := all[:n], slices.Clip(slices.Clone(all[:n]))
			for at := range n + 1 {
				b, next, d := stmtx.Parse(short, at)
				c, behind, wrong := stmtx.Parse(clipped, at)
				if !same(b, c) || next != behind || d != wrong {
					t.Errorf("%q up to %d from %d: %v, %d, %v; clipped: %v, %d, %v", text, n, at, b, next, d, c, behind, wrong)
				}
			}
		}
		if !slices.Equal(all, before) {
			t.Errorf("%q: the tokens are now %v", text, all)
		}
	}
}

// overwrite changes all lists of an expression, up to their capacities.
func overwrite(x api.Expr) {
	for _, a := range x.Args {
		overwrite(a)
	}
	for of := x.T.Args; len(of) > 0; {
		inner := of[0].Args
		all := of[:cap(of)]
		for i := range all {
			all[i] = api.TypeX{Name: "changed"}
		}
		of = inner
	}
	all := x.Args[:cap(x.Args)]
	for i := range all {
		all[i] = api.Expr{Name: "changed"}
	}
}

// overwriteAll changes all lists of statements, up to their capacities.
func overwriteAll(l []api.Stmt) {
	for _, s := range l {
		overwrite(s.X)
		overwriteAll(s.Body)
		overwriteAll(s.Else)
	}
	all := l[:cap(l)]
	for i := range all {
		all[i] = api.Stmt{Name: "changed"}
	}
}

// names are all names in statements, but for those in types, which exprx hands on.
func names(l []api.Stmt) []string {
	var found []string
	var inside func(x api.Expr)
	inside = func(x api.Expr) {
		found = append(found, x.Name)
		for _, a := range x.Args {
			inside(a)
		}
	}
	for _, s := range l {
		found = append(found, s.Name)
		inside(s.X)
		found = slices.Concat(found, names(s.Body), names(s.Else))
	}
	return found
}

// outside tells whether a text is memory of its own.
func outside(text, other string) bool {
	at, begin := uintptr(unsafe.Pointer(unsafe.StringData(text))), uintptr(unsafe.Pointer(unsafe.StringData(other)))
	return at+uintptr(len(text)) <= begin || at >= begin+uintptr(len(other))
}

// wantApart holds that no two lists in statements share memory: each one is changed in turn, and the others stay.
func wantApart(t *testing.T, l []api.Stmt, want []api.Stmt) {
	t.Helper()
	for i := range l {
		s, w := &l[i], want[i]
		overwrite(s.X)
		s.X.Args, s.X.T.Args = nil, nil
		if !same(s.Body, w.Body) || !same(s.Else, w.Else) || !same(l[i+1:], want[i+1:]) {
			t.Fatalf("the expression of %v shares memory", w)
		}
		wantApart(t, s.Body, w.Body)
		overwriteAll(s.Body)
		s.Body = nil
		if !same(s.Else, w.Else) || !same(l[i+1:], want[i+1:]) {
			t.Fatalf("the body of %v shares memory", w)
		}
		wantApart(t, s.Else, w.Else)
		overwriteAll(s.Else)
		s.Else = nil
		if !same(l[i+1:], want[i+1:]) {
			t.Fatalf("what is else of %v shares memory", w)
		}
	}
}

// R4: statements are new memory: they keep neither the tokens nor their texts, their lists share none, and none with another answer.
func TestNewMemory(t *testing.T) {
	whole := strings.Clone(`fun(a1,"a ( b")[bc].sel*!new[]c.T{x,y,z}+-&&==<1;let v=xy`)
	r := rule(5)
	for i := range 300 {
		l, at := block(r.grown(i % 4))
		l = list(l)
		for j, k := range l {
			if at := strings.Index(whole, k.Text); at >= 0 {
				l[j].Text = whole[at : at+len(k.Text)]
			}
		}
		b, _, _ := stmtx.Parse(l, 0)
		c, _, _ := stmtx.Parse(l, 0)
		clear(l)
		if !same(b, at(0)) {
			t.Fatalf("%v; want %v", b, at(0))
		}
		for _, n := range names(b) {
			if n != "" && !outside(n, whole) {
				t.Errorf("%q is memory of a token's text", n)
			}
		}
		wantApart(t, b, at(0))
		overwriteAll(b)
		if !same(c, at(0)) {
			t.Errorf("%v; want %v", c, at(0))
		}
	}
}

// R5: the same answer each time, whatever was asked before.
func TestAgain(t *testing.T) {
	l := list(texts("{let x=f(a);if a{x=1;}else{return;}for b{c;}return x;}{x=;}{if a}"), slices.Repeat(texts("if a{"), 31), faulty())
	type answer struct {
		b    []api.Stmt
		next int
		d    api.Diag
	}
	first := make([]answer, len(l)+1)
	for round := range 3 {
		for at := range first {
			b, next, d := stmtx.Parse(l, at)
			told := answer{b, next, d}
			if round > 0 && !reflect.DeepEqual(told, first[at]) {
				t.Errorf("from %d: %v, then %v", at, first[at], told)
			}
			first[at] = told
		}
	}
}
