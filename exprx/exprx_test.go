package exprx_test

import (
	"math"
	"reflect"
	"slices"
	"strconv"
	"strings"
	"testing"
	"unsafe"

	"quoin/api"
	"quoin/exprx"
	"quoin/lex"
	"quoin/typex"
)

// odd numbers tokens' places as no text does, so that each place tells its token.
func oddAt(i int) int  { return 1000 - 7*i }
func oddEnd(i int) int { return -3 - 5*i }

// tok is a token's kind and text; its place comes from where it stands.
func tok(kind int, text string) api.Token { return api.Token{Kind: kind, Text: text} }

func word(text string) api.Token   { return tok(api.TWord, text) }
func name(text string) api.Token   { return tok(api.TName, text) }
func symbol(text string) api.Token { return tok(api.TSymbol, text) }

func one(tokens ...api.Token) []api.Token { return tokens }

// list places tokens oddly.
func list(parts ...[]api.Token) []api.Token {
	l := slices.Concat(parts...)
	for i := range l {
		l[i].At, l[i].End = oddAt(i), oddEnd(i)
	}
	return l
}

// symbols are those of a text that has a space between each two of them.
func symbols(text string) []api.Token {
	var l []api.Token
	for _, s := range strings.Fields(text) {
		l = append(l, symbol(s))
	}
	return l
}

// sample is an expression's tokens, and the expression, if it begins at token from.
type sample struct {
	tokens []api.Token
	at     func(from int) api.Expr
}

// placed is an expression of a sample's so many tokens.
func placed(x api.Expr, from, n int) api.Expr {
	x.At, x.End = oddAt(from), oddEnd(from+n-1)
	return x
}

func leaf(t api.Token, x api.Expr) sample {
	return sample{one(t), func(from int) api.Expr { return placed(x, from, 1) }}
}

func named(text string) sample {
	return leaf(name(text), api.Expr{Kind: api.EName, Name: text})
}

func counted(n int) sample {
	return leaf(tok(api.TNumber, strconv.Itoa(n)), api.Expr{Kind: api.ENum, N: n})
}

func not(a sample) sample {
	l := slices.Concat(symbols("!"), a.tokens)
	return sample{l, func(from int) api.Expr {
		return placed(api.Expr{Kind: api.ENot, Args: []api.Expr{a.at(from + 1)}}, from, len(l))
	}}
}

func bin(operator string, a, b sample) sample {
	l := slices.Concat(a.tokens, symbols(operator), b.tokens)
	return sample{l, func(from int) api.Expr {
		args := []api.Expr{a.at(from), b.at(from + len(a.tokens) + 1)}
		return placed(api.Expr{Kind: api.EBin, Name: operator, Args: args}, from, len(l))
	}}
}

// bracketed is the same expression, with its own places.
func bracketed(a sample) sample {
	l := slices.Concat(symbols("("), a.tokens, symbols(")"))
	return sample{l, func(from int) api.Expr { return a.at(from + 1) }}
}

func selected(a sample, text string) sample {
	l := slices.Concat(a.tokens, one(symbol("."), name(text)))
	return sample{l, func(from int) api.Expr {
		return placed(api.Expr{Kind: api.ESel, Name: text, Args: []api.Expr{a.at(from)}}, from, len(l))
	}}
}

func index(a, b sample) sample {
	l := slices.Concat(a.tokens, symbols("["), b.tokens, symbols("]"))
	return sample{l, func(from int) api.Expr {
		args := []api.Expr{a.at(from), b.at(from + len(a.tokens) + 1)}
		return placed(api.Expr{Kind: api.EIndex, Args: args}, from, len(l))
	}}
}

// separated are elements' tokens, and the elements, if they begin at token from.
func separated(elements []sample) ([]api.Token, func(from int) []api.Expr) {
	var l []api.Token
	var behind []int
	for i, e := range elements {
		if i > 0 {
			l = append(l, symbol(","))
		}
		behind = append(behind, len(l))
		l = append(l, e.tokens...)
	}
	return l, func(from int) []api.Expr {
		var xs []api.Expr
		for i, e := range elements {
			xs = append(xs, e.at(from+behind[i]))
		}
		return xs
	}
}

func call(a sample, elements ...sample) sample {
	inside, at := separated(elements)
	l := slices.Concat(a.tokens, symbols("("), inside, symbols(")"))
	return sample{l, func(from int) api.Expr {
		args := slices.Concat([]api.Expr{a.at(from)}, at(from+len(a.tokens)+1))
		return placed(api.Expr{Kind: api.ECall, Args: args}, from, len(l))
	}}
}

// create is a `new` of a type that typex's own tests vouch for.
func create(of []api.Token, elements ...sample) sample {
	inside, at := separated(elements)
	l := slices.Concat(one(word("new")), of, symbols("{"), inside, symbols("}"))
	return sample{l, func(from int) api.Expr {
		x, next, _ := typex.Parse(list(make([]api.Token, from+1), of), from+1)
		if next != from+1+len(of) {
			panic("no type")
		}
		return placed(api.Expr{Kind: api.ENew, T: x, Args: at(from + 1 + len(of) + 1)}, from, len(l))
	}}
}

// kindsOfTypes are the tokens of a type of each kind.
func kindsOfTypes() [][]api.Token {
	return [][]api.Token{
		one(word("int")),
		one(word("bool")),
		one(word("text")),
		one(name("T")),
		one(name("a"), symbol("."), name("T")),
		one(symbol("["), symbol("]"), word("int")),
		one(symbol("["), symbol("]"), symbol("["), symbol("]"), name("a"), symbol("."), name("T")),
		slices.Concat(slices.Repeat(symbols("[ ]"), 30), one(name("T"))),
	}
}

func sameType(a, b api.TypeX) bool {
	return a.Kind == b.Kind && a.At == b.At && a.Pkg == b.Pkg && a.Name == b.Name && slices.EqualFunc(a.Args, b.Args, sameType)
}

func same(a, b api.Expr) bool {
	return a.Kind == b.Kind && a.At == b.At && a.End == b.End && a.Name == b.Name && a.N == b.N && sameType(a.T, b.T) && slices.EqualFunc(a.Args, b.Args, same)
}

func wantExpr(t *testing.T, l []api.Token, at int, want api.Expr, behind int) {
	t.Helper()
	x, next, d := exprx.Parse(l, at)
	if !same(x, want) || next != behind || d != (api.Diag{}) {
		t.Errorf("Parse(%v, %d):\n%v, %d, %v; want\n%v, %d", l, at, x, next, d, want, behind)
	}
}

func wantWrong(t *testing.T, l []api.Token, at, place, code int) {
	t.Helper()
	x, next, d := exprx.Parse(l, at)
	if !same(x, api.Expr{}) || next != 0 || d != (api.Diag{At: place, Code: code}) {
		t.Errorf("Parse(%v, %d):\n%v, %d, %v; want error %d at %d", l, at, x, next, d, code, place)
	}
}

// wantSample holds Parse against a sample, behind and before other tokens.
func wantSample(t *testing.T, s sample) {
	t.Helper()
	for _, before := range [][]api.Token{nil, symbols("+"), slices.Concat(symbols("( ["), one(word("new"), name("a")), symbols("."))} {
		for _, behind := range [][]api.Token{nil, symbols(";"), symbols("{ }"), one(tok(api.TEnd, "")), one(name("a"))} {
			from := len(before)
			wantExpr(t, list(before, s.tokens, behind), from, s.at(from), from+len(s.tokens))
		}
	}
}

// wantFault holds that these tokens have an error at the one with this index.
func wantFault(t *testing.T, l []api.Token, wrong, code int) {
	t.Helper()
	l = list(l)
	place := 0
	switch {
	case wrong < len(l):
		place = oddAt(wrong)
	case len(l) > 0:
		place = oddEnd(len(l) - 1)
	}
	wantWrong(t, l, 0, place, code)
}

// texts are lex's tokens of a text, without the end.
func texts(t *testing.T, text string) []api.Token {
	t.Helper()
	l, d := lex.All(text)
	if d != (api.Diag{}) {
		t.Fatal(text, d)
	}
	return l[:len(l)-1]
}

func TestExamples(t *testing.T) {
	a, b, c, f, x := named("a"), named("b"), named("c"), named("f"), named("x")
	for text, want := range map[string]sample{
		"a+b*c":          bin("+", a, bin("*", b, c)),
		"a-b-c":          bin("-", bin("-", a, b), c),
		"a==b&&!c":       bin("&&", bin("==", a, b), not(c)),
		"f(x).g[1]":      index(selected(call(f, x), "g"), counted(1)),
		"new []int{1,2}": create(one(symbol("["), symbol("]"), word("int")), counted(1), counted(2)),
	} {
		l := list(texts(t, text))
		wantExpr(t, l, 0, want.at(0), len(l))
	}
	for text, at := range map[string]int{"a+": 2, "f(,)": 2, ")": 0} {
		wantWrong(t, texts(t, text), 0, at, api.DSyntax)
	}
}

// The numbers of kinds, codes and limits, as the chapter lists them.
func TestNumbers(t *testing.T) {
	if !slices.Equal([]int{api.ENum, api.EText, api.EBool, api.EName, api.ESel, api.ECall, api.EIndex, api.ENew, api.EBin, api.ENot}, []int{1, 2, 3, 4, 5, 6, 7, 8, 9, 10}) {
		t.Error("kinds")
	}
	if api.DNumber != 2 || api.DText != 3 || api.DSyntax != 5 || api.DDeep != 6 || api.MaxDeep != 30 || api.MaxDigits != 15 {
		t.Error("codes, limits")
	}
}

// P4.1, P4.3: offsets of a text, by hand: a part keeps its own ones, and what begins or ends with a part's bracket begins or ends there.
func TestOffsets(t *testing.T) {
	id := func(text string, at int) api.Expr {
		return api.Expr{Kind: api.EName, Name: text, At: at, End: at + 1}
	}
	of := func(kind int, text string, at, end int, args ...api.Expr) api.Expr {
		return api.Expr{Kind: kind, Name: text, At: at, End: end, Args: args}
	}
	seven := api.Expr{Kind: api.ENum, N: 7, At: 12, End: 13}
	made := of(api.ENew, "", 1, 15, seven)
	made.T = api.TypeX{Kind: api.XList, At: 5, Args: []api.TypeX{{Kind: api.XInt, At: 7}}}
	for text, want := range map[string]api.Expr{
		" a + b ":               of(api.EBin, "+", 1, 6, id("a", 1), id("b", 5)),
		" ( a ) ":               id("a", 3),
		"((a))":                 id("a", 2),
		"(a)+b":                 of(api.EBin, "+", 0, 5, id("a", 1), id("b", 4)),
		"a+(b)":                 of(api.EBin, "+", 0, 5, id("a", 0), id("b", 3)),
		"((a)+(b))":             of(api.EBin, "+", 1, 8, id("a", 2), id("b", 6)),
		"a*(b+c)":               of(api.EBin, "*", 0, 7, id("a", 0), of(api.EBin, "+", 3, 6, id("b", 3), id("c", 5))),
		"(a)-b-(c)":             of(api.EBin, "-", 0, 9, of(api.EBin, "-", 0, 5, id("a", 1), id("b", 4)), id("c", 7)),
		"(a).b":                 of(api.ESel, "b", 0, 5, id("a", 1)),
		"(a)(b)":                of(api.ECall, "", 0, 6, id("a", 1), id("b", 4)),
		"(a)[b]":                of(api.EIndex, "", 0, 6, id("a", 1), id("b", 4)),
		"((a).b).c":             of(api.ESel, "c", 0, 9, of(api.ESel, "b", 1, 6, id("a", 2))),
		"!(a)":                  of(api.ENot, "", 0, 4, id("a", 2)),
		"(!a).b":                of(api.ESel, "b", 0, 6, of(api.ENot, "", 1, 3, id("a", 2))),
		" new []int{ 7 } ":      made,
		"f ( ) . g":             of(api.ESel, "g", 0, 9, of(api.ECall, "", 0, 5, id("f", 0))),
		"f((a), (b)) // c\n[g]": of(api.EIndex, "", 0, 20, of(api.ECall, "", 0, 11, id("f", 0), id("a", 3), id("b", 8)), id("g", 18)),
	} {
		l := texts(t, text)
		wantExpr(t, l, 0, want, len(l))
	}
}

// leaves are expressions of one token.
func leaves() []sample {
	l := []sample{
		leaf(word("true"), api.Expr{Kind: api.EBool, N: 1}),
		leaf(word("false"), api.Expr{Kind: api.EBool}),
	}
	for _, n := range []int{0, 1, 9, 10, 123456789012345, 999999999999999} {
		l = append(l, counted(n))
	}
	for text, n := range map[string]int{"00": 0, "07": 7, "000000000000000": 0, "000000000000010": 10} {
		l = append(l, leaf(tok(api.TNumber, text), api.Expr{Kind: api.ENum, N: n}))
	}
	// What lex can't produce: texts and names with any bytes.
	for _, inside := range []string{"", "a", "a b", "true", `"`, `""`, `a"b`, "\n", "\x00\xff", "//", strings.Repeat("t", 5000)} {
		l = append(l, leaf(tok(api.TText, `"`+inside+`"`), api.Expr{Kind: api.EText, Name: inside}))
	}
	for _, text := range []string{"a", "f_1", "int", "true", "new", "", "(", "!", "+", "1", `"`, "\x00\xff", strings.Repeat("n", 500)} {
		l = append(l, named(text))
	}
	return l
}

// P4.1: each kind of one token.
func TestLeaves(t *testing.T) {
	for _, s := range leaves() {
		wantSample(t, s)
		wantSample(t, bracketed(s))
		wantSample(t, not(s))
	}
}

// levels are the operators of each level, the first one first.
func levels() [][]string {
	return [][]string{{"&&"}, {"==", "<"}, {"+", "-"}, {"*"}}
}

func levelOf(operator string) int {
	return 1 + slices.IndexFunc(levels(), func(of []string) bool { return slices.Contains(of, operator) })
}

// P4.1: each operator at its level, and those of one level from the left: all of up to three.
func TestOperators(t *testing.T) {
	a, b, c, d := named("a"), counted(2), named("c"), named("d")
	all := slices.Concat(levels()...)
	for _, first := range all {
		wantSample(t, bin(first, a, b))
		for _, second := range all {
			var want sample
			if levelOf(first) >= levelOf(second) {
				want = bin(second, bin(first, a, b), c)
			} else {
				want = bin(first, a, bin(second, b, c))
			}
			wantSample(t, want)
			for _, third := range all {
				against(t, list(bin(third, want, d).tokens), 0)
			}
		}
	}
}

// P4.1: long rows of one level, which are left-associative, and one inside of the other.
func TestRows(t *testing.T) {
	for _, of := range levels() {
		s := named("a")
		for i := range 300 {
			s = bin(of[i%len(of)], s, named("b"))
		}
		wantSample(t, s)
	}
	a := named("a")
	product := bin("*", bin("*", a, a), a)
	sum := bin("-", bin("+", product, product), product)
	compared := bin("==", bin("<", sum, sum), sum)
	wantSample(t, bin("&&", bin("&&", compared, compared), compared))
}

// P4.1: only a TSymbol of exactly an operator's text goes an expression on.
func TestNoOperator(t *testing.T) {
	others := slices.Concat(strangersBehind(), one(tok(api.TName, "+"), tok(api.TWord, "+"), tok(api.TText, "+"), tok(api.TEnd, "+"), tok(7, "*"), tok(api.TNumber, "-")))
	for _, s := range others {
		for _, behind := range [][]api.Token{nil, one(name("b")), symbols("+"), symbols(")")} {
			for _, x := range []sample{named("a"), bin("+", named("a"), counted(1)), not(named("a")), call(named("f"))} {
				wantExpr(t, list(x.tokens, one(s), behind), 0, x.at(0), len(x.tokens))
			}
		}
	}
}

// followers put something behind an expression.
func followers() []func(a sample) sample {
	x := bin("+", named("x"), counted(1))
	return []func(a sample) sample{
		func(a sample) sample { return selected(a, "g") },
		func(a sample) sample { return call(a) },
		func(a sample) sample { return call(a, x) },
		func(a sample) sample { return call(a, x, not(named("y")), bracketed(x)) },
		func(a sample) sample { return index(a, x) },
	}
}

// P4.1: `.`, `(` and `[`, up to three of them, behind each of what they may stand behind.
func TestFollowed(t *testing.T) {
	firsts := []sample{
		named("a"), counted(1), leaf(word("true"), api.Expr{Kind: api.EBool, N: 1}), leaf(tok(api.TText, `"t"`), api.Expr{Kind: api.EText, Name: "t"}),
		bracketed(named("a")), bracketed(bin("+", named("a"), named("b"))), bracketed(not(named("a"))), create(one(name("T")), counted(1)),
	}
	for _, first := range firsts {
		for _, f := range followers() {
			wantSample(t, f(first))
			for _, g := range followers() {
				wantSample(t, g(f(first)))
				wantSample(t, not(g(f(first))))
				wantSample(t, bin("*", g(f(first)), f(first)))
				for _, h := range followers() {
					s := h(g(f(first)))
					wantExpr(t, list(s.tokens), 0, s.at(0), len(s.tokens))
				}
			}
		}
	}
	s := named("a")
	for i := range 300 {
		s = followers()[i%5](s)
	}
	wantSample(t, s)
}

// P4.1: the Text of a selector is any TName's.
func TestSelectors(t *testing.T) {
	for _, text := range []string{"a", "int", "true", "", ".", "\x00\xff", strings.Repeat("n", 500)} {
		wantSample(t, selected(named("a"), text))
		wantSample(t, selected(selected(named("a"), text), text))
	}
}

// P4.1: `new` with each kind of type, and with no elements, one and more.
func TestNew(t *testing.T) {
	for _, of := range kindsOfTypes() {
		wantSample(t, create(of))
		wantSample(t, create(of, counted(1)))
		wantSample(t, create(of, counted(1), bin("&&", named("a"), not(named("b"))), create(of, named("c")), create(of)))
		wantSample(t, selected(create(of), "a"))
		wantSample(t, index(call(create(of, named("a")), named("b")), named("c")))
		wantSample(t, bin("+", create(of), create(of)))
		wantSample(t, not(create(of)))
		wantSample(t, bracketed(create(of)))
	}
}

// P4.1: `!` holds for what stands behind it with all that follows that, but for operators.
func TestNot(t *testing.T) {
	a, b := named("a"), named("b")
	wantSample(t, not(not(a)))
	wantSample(t, not(selected(call(a, b), "c")))
	wantSample(t, not(index(bracketed(bin("+", a, b)), a)))
	wantSample(t, selected(bracketed(not(a)), "c"))
	wantSample(t, call(bracketed(not(a)), b))
	for _, operator := range slices.Concat(levels()...) {
		wantSample(t, bin(operator, not(a), b))
		wantSample(t, bin(operator, a, not(b)))
		wantSample(t, bin(operator, not(not(a)), not(not(b))))
		wantSample(t, not(bracketed(bin(operator, a, b))))
		wantSample(t, bin(operator, not(bracketed(bin(operator, a, b))), a))
	}
}

// P4.1: brackets bind what is inside together.
func TestBrackets(t *testing.T) {
	a, b, c := named("a"), named("b"), named("c")
	all := slices.Concat(levels()...)
	for _, first := range all {
		for _, second := range all {
			wantSample(t, bin(first, a, bracketed(bin(second, b, c))))
			wantSample(t, bin(first, bracketed(bin(second, a, b)), c))
			wantSample(t, bracketed(bin(first, bracketed(bin(second, bracketed(a), b)), bracketed(bracketed(c)))))
			wantSample(t, call(a, bin(first, a, bracketed(bin(second, b, c))), bracketed(bin(first, a, b)), c))
			wantSample(t, index(bracketed(bin(first, a, b)), bin(second, bracketed(a), c)))
		}
	}
}

// strangers are tokens with which no expression begins.
func strangers() []api.Token {
	l := []api.Token{
		tok(api.TEnd, ""), tok(api.TEnd, "a"), tok(api.TEnd, "("),
		word(""), word("a"), word("True"), word("true "), word("fals"), word("news"), word("("), word("!"), word("1"),
		symbol(""), symbol("a"), symbol("1"), symbol("true"), symbol("false"), symbol("new"), symbol("()"), symbol("( "), symbol("!!"), symbol("!="), symbol(`""`), symbol("&"),
		tok(-1, "a"), tok(6, "a"), tok(6, "("), tok(99, "1"), tok(math.MinInt, "true"), tok(7, "false"), tok(8, "new"), tok(math.MaxInt, "a"),
	}
	for _, s := range strings.Fields("package import type struct interface func let if else for return int bool text") {
		l = append(l, word(s))
	}
	return append(l, symbols(") { } [ ] , ; . = == && < + - *")...)
}

// strangersBehind are tokens that do not go an expression on.
func strangersBehind() []api.Token {
	l := slices.DeleteFunc(strangers(), func(s api.Token) bool {
		return s.Kind == api.TSymbol && (levelOf(s.Text) > 0 || s.Text == "." || s.Text == "[")
	})
	return slices.Concat(l, symbols("! !!"), one(word("true"), word("new"), name("a"), name("."), name("("), name("["), word("."), word("["), tok(api.TNumber, "1"), tok(api.TNumber, "x"), tok(api.TText, `"t"`), tok(api.TText, "x")))
}

// ahead are tokens behind which an expression must begin.
func ahead() [][]api.Token {
	l := [][]api.Token{
		nil,
		symbols("!"),
		symbols("("),
		symbols("! ( ! !"),
		one(name("f"), symbol("("), name("a"), symbol(",")),
		one(name("f"), symbol("[")),
		one(name("f"), symbol("("), name("g"), symbol("("), symbol(")"), symbol(",")),
		one(word("new"), word("int"), symbol("{"), name("a"), symbol(",")),
	}
	for _, operator := range slices.Concat(levels()...) {
		l = append(l, one(name("a"), symbol(operator)))
		l = append(l, one(symbol("("), name("a"), symbol(")"), symbol(operator), symbol("!")))
	}
	return l
}

// P4.2: a token that may not stand where an expression must begin, whatever follows it.
func TestNoExpression(t *testing.T) {
	for _, before := range ahead() {
		for _, s := range strangers() {
			for _, behind := range [][]api.Token{nil, one(name("a")), symbols(")"), symbols("! ("), one(tok(api.TNumber, ""))} {
				wantFault(t, slices.Concat(before, one(s), behind), len(before), api.DSyntax)
			}
		}
		wantFault(t, before, len(before), api.DSyntax)
	}
}

// P4.1, P4.2: calls and `new` may have no elements, but neither `(` alone nor an index.
func TestNoElements(t *testing.T) {
	f, a := name("f"), name("a")
	wantFault(t, symbols("( )"), 1, api.DSyntax)
	wantFault(t, slices.Concat(one(f), symbols("[ ]")), 2, api.DSyntax)
	wantFault(t, slices.Concat(one(f), symbols("( ,")), 2, api.DSyntax)
	wantFault(t, slices.Concat(one(f), symbols("( , )")), 2, api.DSyntax)
	wantFault(t, one(f, symbol("("), a, symbol(","), symbol(")")), 4, api.DSyntax)
	wantFault(t, one(f, symbol("("), a, symbol(","), symbol(","), a, symbol(")")), 4, api.DSyntax)
	wantFault(t, one(f, symbol("["), a, symbol(","), a, symbol("]")), 3, api.DSyntax)
	wantFault(t, one(symbol("("), a, symbol(","), a, symbol(")")), 2, api.DSyntax)
	wantFault(t, one(word("new"), f, symbol("{"), symbol(",")), 3, api.DSyntax)
	wantFault(t, one(word("new"), f, symbol("{"), a, symbol(","), symbol("}")), 5, api.DSyntax)
	wantSample(t, call(call(call(named("f")))))
	wantSample(t, create(one(f), create(one(f)), call(named("f"))))
}

// P4.2: what is open ends with its own bracket, and its parts are separated, or the token there is in error.
func TestNotClosed(t *testing.T) {
	a := name("a")
	for _, c := range []struct {
		before []api.Token
		closes []string
	}{
		{one(symbol("("), a), []string{")"}},
		{one(a, symbol("["), a), []string{"]"}},
		{one(a, symbol("("), a), []string{")", ","}},
		{one(a, symbol("("), a, symbol(","), a), []string{")", ","}},
		{one(word("new"), a, symbol("{"), a), []string{"}", ","}},
		{one(symbol("!"), symbol("("), symbol("!"), a, symbol("+"), a), []string{")"}},
	} {
		for _, s := range slices.Concat(strangersBehind(), one(name(")"), tok(api.TText, ")"), word(")"), tok(api.TEnd, "]"), name("]"), name("}"), name(","), tok(api.TText, ","))) {
			if s.Kind == api.TSymbol && (slices.Contains(c.closes, s.Text) || s.Text == "(") {
				continue
			}
			for _, behind := range [][]api.Token{nil, symbols(")"), one(a)} {
				wantFault(t, slices.Concat(c.before, one(s), behind), len(c.before), api.DSyntax)
			}
		}
		wantFault(t, c.before, len(c.before), api.DSyntax)
	}
}

// P4.2: behind an expression and `.` stands a TName, or the token there is in error.
func TestNoSelector(t *testing.T) {
	others := slices.Concat(strangers(), symbols("( !"), one(word("true"), word("new"), tok(api.TNumber, "1"), tok(api.TNumber, ""), tok(api.TText, `"g"`), tok(api.TText, "g")))
	for _, before := range [][]api.Token{one(name("a"), symbol(".")), one(symbol("!"), name("a"), symbol("("), symbol(")"), symbol(".")), one(tok(api.TNumber, "1"), symbol("."))} {
		for _, s := range others {
			for _, behind := range [][]api.Token{nil, one(name("g"))} {
				wantFault(t, slices.Concat(before, one(s), behind), len(before), api.DSyntax)
			}
		}
		wantFault(t, before, len(before), api.DSyntax)
	}
}

// P4.2: within a type the error is typex's; behind it stands a `{`.
func TestNoType(t *testing.T) {
	for _, before := range ahead() {
		before = slices.Concat(before, one(word("new")))
		n := len(before)
		for _, s := range slices.Concat(strangers(), symbols("( !"), one(tok(api.TNumber, "1"), tok(api.TText, `"t"`), word("true"), word("new"))) {
			if s == symbol("[") || s.Kind == api.TWord && slices.Contains([]string{"int", "bool", "text"}, s.Text) {
				continue
			}
			wantFault(t, slices.Concat(before, one(s), symbols("{ }")), n, api.DSyntax)
			wantFault(t, slices.Concat(before, one(name("a"), symbol("."), s), symbols("{ }")), n+2, api.DSyntax)
			wantFault(t, slices.Concat(before, symbols("[ ]"), one(s), symbols("{ }")), n+2, api.DSyntax)
			if s != symbol("]") {
				wantFault(t, slices.Concat(before, one(symbol("["), s), symbols("{ }")), n+1, api.DSyntax)
			}
			if s != symbol("{") {
				wantFault(t, slices.Concat(before, one(word("int"), s), symbols("{ }")), n+1, api.DSyntax)
				wantFault(t, slices.Concat(before, symbols("[ ]"), one(word("text"), s)), n+3, api.DSyntax)
			}
		}
		wantFault(t, before, n, api.DSyntax)
		wantFault(t, slices.Concat(before, one(name("a"))), n+1, api.DSyntax)
		wantFault(t, slices.Concat(before, symbols("[")), n+1, api.DSyntax)
		wantFault(t, slices.Concat(before, slices.Repeat(symbols("[ ]"), 31), one(word("int")), symbols("{ }")), n+60, api.DDeep)
	}
}

// P4.2: a TNumber has 1 to 15 digits.
func TestNumberTexts(t *testing.T) {
	wrong := []string{
		"", "1234567890123456", "0000000000000001", "0000000000000000", strings.Repeat("1", 5000), "9223372036854775808",
		"x", "1x", "x1", "-1", "+1", " 1", "1 ", "1_0", "0x1", "1e3", "1.0", "/", ":", "1/", "1:", "\x00", "1\xff", "\xd9\xa1", "\xef\xbc\x91",
	}
	for _, before := range ahead() {
		for _, text := range wrong {
			for _, behind := range [][]api.Token{nil, symbols("+ 1"), symbols(")"), symbols("! !"), one(tok(api.TText, ""))} {
				wantFault(t, slices.Concat(before, one(tok(api.TNumber, text)), behind), len(before), api.DNumber)
			}
		}
	}
	for digits := 1; digits <= 15; digits++ {
		text := "123456789012345"[:digits]
		n, _ := strconv.Atoi(text)
		wantSample(t, leaf(tok(api.TNumber, text), api.Expr{Kind: api.ENum, N: n}))
	}
}

// P4.2: a TText has a quote at each end.
func TestTextTexts(t *testing.T) {
	for _, before := range ahead() {
		for _, text := range []string{"", `"`, "a", "ab", `"a`, `a"`, `"a" `, ` "a"`, "''", "``", `""a`, `a""`, "\x00", "\xff\xff", strings.Repeat("t", 500)} {
			for _, behind := range [][]api.Token{nil, symbols("+"), symbols(")"), symbols("! !"), one(tok(api.TNumber, ""))} {
				wantFault(t, slices.Concat(before, one(tok(api.TText, text)), behind), len(before), api.DText)
			}
		}
	}
}

// P4.2: of several errors the first one from the left is told.
func TestFirstError(t *testing.T) {
	num, text := tok(api.TNumber, "x"), tok(api.TText, "x")
	plus, open := symbol("+"), symbol("(")
	wantFault(t, one(num, plus, text), 0, api.DNumber)
	wantFault(t, one(text, plus, num), 0, api.DText)
	wantFault(t, one(name("a"), plus, plus, num), 2, api.DSyntax)
	wantFault(t, one(name("f"), open, num, num, text), 2, api.DNumber)
	wantFault(t, one(name("f"), open, name("a"), num, text), 3, api.DSyntax)
	wantFault(t, slices.Concat(symbols("( ( ("), one(text), slices.Repeat(symbols("("), 40)), 3, api.DText)
	wantFault(t, slices.Concat(slices.Repeat(symbols("("), 31), one(text)), 30, api.DDeep)
	wantFault(t, slices.Concat(one(name("a"), symbol("."), num), slices.Repeat(symbols("!"), 40)), 2, api.DSyntax)
	// The first expression ends ahead of what would be wrong in another one.
	for _, s := range []api.Token{num, text, symbol(")"), symbol("!")} {
		wantExpr(t, list(one(name("a"), s, num, text)), 0, named("a").at(0), 1)
	}
}

// opener puts an expression one deeper: before are the tokens ahead of it, of which the one at into counts.
type opener struct {
	before []api.Token
	into   int
	put    func(a sample) sample
}

func openers() []opener {
	f, g := named("f"), name("f")
	of := slices.Concat(slices.Repeat(symbols("[ ]"), 30), one(word("int")))
	return []opener{
		{symbols("!"), 0, not},
		{symbols("("), 0, bracketed},
		{one(g, symbol("(")), 1, func(a sample) sample { return call(f, a) }},
		{one(g, symbol("("), g, symbol(",")), 1, func(a sample) sample { return call(f, f, a) }},
		{one(g, symbol("[")), 1, func(a sample) sample { return index(f, a) }},
		{one(g, symbol("["), g, symbol("+")), 1, func(a sample) sample { return index(f, bin("+", f, a)) }},
		{one(word("new"), word("int"), symbol("{")), 2, func(a sample) sample { return create(one(word("int")), a) }},
		{slices.Concat(one(word("new")), of, symbols("{")), 62, func(a sample) sample { return create(of, a) }},
	}
}

// nest is what lies in so many openers, chosen by their place, and the tokens ahead of it.
func nest(a sample, n int, choose func(i int) opener) (sample, []api.Token) {
	var before []api.Token
	for i := range n {
		before = append(before, choose(i).before...)
	}
	for i := n - 1; i >= 0; i-- {
		a = choose(i).put(a)
	}
	return a, before
}

// choices are rules by which to choose openers: one alone, and two or all in turn.
func choices() []func(i int) opener {
	all := openers()
	l := []func(i int) opener{func(i int) opener { return all[i%len(all)] }, func(i int) opener { return all[i*i/3%len(all)] }}
	for _, o := range all {
		for _, p := range all {
			l = append(l, func(i int) opener {
				if i%2 == 0 {
					return o
				}
				return p
			})
		}
	}
	return l
}

// P4.2: 30 nested ones may be; the 31st is DDeep, whatever follows it.
func TestDeep(t *testing.T) {
	for _, choose := range choices() {
		for _, inner := range []sample{named("a"), selected(named("a"), "b"), create(one(word("int")))} {
			s, _ := nest(inner, 29, choose)
			wantExpr(t, list(s.tokens), 0, s.at(0), len(s.tokens))
		}
		s, before := nest(named("a"), 30, choose)
		wantSample(t, s)
		for _, o := range openers() {
			until := slices.Concat(before, o.before[:o.into+1])
			n := len(before) + o.into
			for _, behind := range [][]api.Token{nil, one(name("a")), symbols(") ] }"), symbols(";"), one(tok(api.TNumber, "x")), slices.Repeat(symbols("("), 100)} {
				wantFault(t, slices.Concat(until, behind), n, api.DDeep)
			}
			more, _ := nest(o.put(named("a")), 30, choose)
			wantFault(t, more.tokens, n, api.DDeep)
		}
		// Without elements, too.
		for _, empty := range []struct {
			into int
			s    sample
		}{{1, call(named("f"))}, {2, create(one(word("int")))}} {
			more, _ := nest(empty.s, 30, choose)
			wantFault(t, more.tokens, len(before)+empty.into, api.DDeep)
		}
	}
	wantFault(t, slices.Repeat(symbols("!"), 100000), 30, api.DDeep)
	wantFault(t, slices.Repeat(one(name("f"), symbol("(")), 100000), 61, api.DDeep)
}

// P4.2: an error ahead of what would be too deep is the first one.
func TestAheadOfDeep(t *testing.T) {
	for _, choose := range choices() {
		_, before := nest(named("a"), 30, choose)
		n := len(before)
		wantFault(t, slices.Concat(before, symbols(", (")), n, api.DSyntax)
		wantFault(t, slices.Concat(before, one(tok(api.TNumber, "x")), symbols("(")), n, api.DNumber)
		wantFault(t, slices.Concat(before, one(tok(api.TText, "x")), symbols("(")), n, api.DText)
		wantFault(t, slices.Concat(before, one(word("new")), symbols("{")), n+1, api.DSyntax)
		wantFault(t, slices.Concat(before, one(word("new"), word("int")), symbols("(")), n+2, api.DSyntax)
		wantFault(t, slices.Concat(before, one(word("new"), word("int"))), n+2, api.DSyntax)
		wantFault(t, slices.Concat(before, one(word("new")), slices.Repeat(symbols("[ ]"), 31)), n+61, api.DDeep)
	}
}

// P4.2: what is closed again, or has ended, does not count: beside one another there may be any number.
func TestBeside(t *testing.T) {
	a, f := named("a"), named("f")
	all := openers()
	for _, choose := range choices() {
		var siblings []sample
		for i := range 60 {
			siblings = append(siblings, all[i%len(all)].put(a))
		}
		s, _ := nest(call(f, siblings...), 28, choose)
		wantExpr(t, list(s.tokens), 0, s.at(0), len(s.tokens))
		s, _ = nest(create(one(word("int")), siblings...), 28, choose)
		wantExpr(t, list(s.tokens), 0, s.at(0), len(s.tokens))
	}
	for _, o := range all {
		s := o.put(a)
		for range 100 {
			s = bin("-", s, o.put(a))
		}
		wantSample(t, s)
	}
	deep, _ := nest(a, 30, func(i int) opener { return all[i%len(all)] })
	wantSample(t, bin("+", bin("+", deep, deep), deep))
	deep, _ = nest(a, 29, func(i int) opener { return all[i%len(all)] })
	wantSample(t, create(one(name("T")), deep, deep, deep))
	// A `!` goes as far as what follows its operand.
	wantFault(t, slices.Concat(slices.Repeat(symbols("!"), 30), one(name("a"), symbol("(")), symbols(")")), 31, api.DDeep)
	wantFault(t, slices.Concat(slices.Repeat(symbols("!"), 30), one(name("a"), symbol("["), name("a")), symbols("]")), 31, api.DDeep)
	thirty, _ := nest(a, 30, func(int) opener { return all[0] })
	wantSample(t, bin("*", thirty, bracketed(thirty.take(1))))
}

// take is a nest of `!` without so many of them.
func (s sample) take(n int) sample {
	return sample{s.tokens[n:], func(from int) api.Expr {
		x := s.at(from - n)
		for range n {
			x = x.Args[0]
		}
		return x
	}}
}

// P4.1: where there is no token, there is an end, at the last one's End.
func TestNoToken(t *testing.T) {
	for _, l := range [][]api.Token{nil, {}, list(one(name("a")))[:0]} {
		for _, at := range []int{0, 1, -1, 61, math.MaxInt, math.MaxInt - 1, math.MinInt} {
			wantWrong(t, l, at, 0, api.DSyntax)
		}
	}
	for _, end := range []int{0, 1, 77, -5, math.MaxInt, math.MinInt} {
		for _, l := range [][]api.Token{one(name("a")), symbols("! ("), one(name("a"), symbol("+"), name("b")), one(word("new"), word("int")), one(tok(api.TEnd, ""))} {
			l = list(l)
			l[len(l)-1].End = end
			for _, at := range []int{len(l), len(l) + 1, len(l) + 100, -1, -2, -len(l), math.MaxInt, math.MaxInt - 1, math.MinInt, math.MinInt + 1} {
				wantWrong(t, l, at, end, api.DSyntax)
			}
		}
	}
}

// P4.1: a token is judged by its Kind and Text alone: any places are answered as they are.
func TestPlaces(t *testing.T) {
	for _, at := range []int{0, -1, 5, math.MaxInt, math.MinInt} {
		for _, end := range []int{0, -1, 5, math.MaxInt, math.MinInt} {
			put := func(tokens ...api.Token) []api.Token {
				for i := range tokens {
					tokens[i].At, tokens[i].End = at, end
				}
				return tokens
			}
			a := api.Expr{Kind: api.EName, Name: "a", At: at, End: end}
			wantExpr(t, put(name("a")), 0, a, 1)
			wantExpr(t, put(name("a"), symbol("*"), name("a")), 0, api.Expr{Kind: api.EBin, Name: "*", At: at, End: end, Args: []api.Expr{a, a}}, 3)
			wantExpr(t, put(symbol("!"), name("a"), symbol("("), symbol(")")), 0, api.Expr{Kind: api.ENot, At: at, End: end, Args: []api.Expr{{Kind: api.ECall, At: at, End: end, Args: []api.Expr{a}}}}, 4)
			wantExpr(t, put(word("new"), word("int"), symbol("{"), symbol("}")), 0, api.Expr{Kind: api.ENew, At: at, End: end, T: api.TypeX{Kind: api.XInt, At: at}}, 4)
			wantWrong(t, put(symbol(")")), 0, at, api.DSyntax)
			wantWrong(t, put(tok(api.TNumber, "x")), 0, at, api.DNumber)
			wantWrong(t, put(tok(api.TText, "x")), 0, at, api.DText)
			wantWrong(t, put(slices.Repeat(symbols("!"), 31)...), 0, at, api.DDeep)
			wantWrong(t, put(symbol("!")), 0, end, api.DSyntax)
		}
	}
}

// model parses as the chapter writes it, but for operators: it cuts a row of operands at the last operator of the loosest level.
type model []api.Token

func (m model) look(i int) api.Token {
	if i < 0 || i >= len(m) {
		if len(m) == 0 {
			return api.Token{}
		}
		return api.Token{At: m[len(m)-1].End, End: m[len(m)-1].End}
	}
	return m[i]
}

func (m model) is(i int, text string) bool {
	return m.look(i).Kind == 4 && m.look(i).Text == text
}

func (m model) wrong(i, code int) (api.Expr, int, api.Diag) {
	return api.Expr{}, 0, api.Diag{At: m.look(i).At, Code: code}
}

// made is an expression of the tokens up to next.
func (m model) made(x api.Expr, at, next int) api.Expr {
	x.At, x.End = m.look(at).At, m.look(next-1).End
	return x
}

// row is operands, with operators between them: where each operand begins and ends, and its expression.
type row struct {
	xs        []api.Expr
	at, next  []int
	operators []string
}

func (m model) row(r row) api.Expr {
	if len(r.operators) == 0 {
		return r.xs[0]
	}
	cut, loosest := 0, 9
	for i, o := range r.operators {
		if levelOf(o) <= loosest {
			cut, loosest = i, levelOf(o)
		}
	}
	left := m.row(row{r.xs[:cut+1], r.at[:cut+1], r.next[:cut+1], r.operators[:cut]})
	right := m.row(row{r.xs[cut+1:], r.at[cut+1:], r.next[cut+1:], r.operators[cut+1:]})
	x := api.Expr{Kind: 9, Name: r.operators[cut], Args: []api.Expr{left, right}}
	return m.made(x, r.at[0], r.next[len(r.next)-1])
}

func (m model) expr(at, deep int) (api.Expr, int, api.Diag) {
	var r row
	for {
		x, next, d := m.operand(at, deep)
		if d.Code != 0 {
			return x, next, d
		}
		r.xs, r.at, r.next = append(r.xs, x), append(r.at, at), append(r.next, next)
		if m.look(next).Kind != 4 || levelOf(m.look(next).Text) == 0 {
			return m.row(r), next, d
		}
		r.operators = append(r.operators, m.look(next).Text)
		at = next + 1
	}
}

func (m model) operand(at, deep int) (api.Expr, int, api.Diag) {
	if m.is(at, "!") {
		if deep == 30 {
			return m.wrong(at, 6)
		}
		x, next, d := m.operand(at+1, deep+1)
		if d.Code != 0 {
			return x, next, d
		}
		return m.made(api.Expr{Kind: 10, Args: []api.Expr{x}}, at, next), next, d
	}
	x, next, d := m.first(at, deep)
	for d.Code == 0 {
		switch {
		case m.is(next, ".") && m.look(next+1).Kind != 1:
			return m.wrong(next+1, 5)
		case m.is(next, "."):
			x = m.made(api.Expr{Kind: 5, Name: m.look(next + 1).Text, Args: []api.Expr{x}}, at, next+2)
			next += 2
		case m.is(next, "("):
			var args []api.Expr
			args, next, d = m.elements(next, deep, ")", 0, 1<<30)
			x = m.made(api.Expr{Kind: 6, Args: slices.Concat([]api.Expr{x}, args)}, at, next)
		case m.is(next, "["):
			var args []api.Expr
			args, next, d = m.elements(next, deep, "]", 1, 1)
			x = m.made(api.Expr{Kind: 7, Args: slices.Concat([]api.Expr{x}, args)}, at, next)
		default:
			return x, next, d
		}
	}
	return api.Expr{}, 0, d
}

// elements are from least to most expressions behind a bracket, up to the one that closes it.
func (m model) elements(at, deep int, closing string, least, most int) ([]api.Expr, int, api.Diag) {
	if deep == 30 {
		return nil, 0, api.Diag{At: m.look(at).At, Code: 6}
	}
	var xs []api.Expr
	for next := at + 1; ; {
		if len(xs) >= least && m.is(next, closing) {
			return xs, next + 1, api.Diag{}
		}
		if len(xs) > 0 {
			if !m.is(next, ",") || len(xs) == most {
				return nil, 0, api.Diag{At: m.look(next).At, Code: 5}
			}
			next++
		}
		x, behind, d := m.expr(next, deep+1)
		if d.Code != 0 {
			return nil, 0, d
		}
		xs, next = append(xs, x), behind
	}
}

func (m model) first(at, deep int) (api.Expr, int, api.Diag) {
	leaf := func(x api.Expr) (api.Expr, int, api.Diag) { return m.made(x, at, at+1), at + 1, api.Diag{} }
	t := m.look(at)
	switch {
	case t.Kind == 1:
		return leaf(api.Expr{Kind: 4, Name: t.Text})
	case t.Kind == 2:
		if len(t.Text) < 1 || len(t.Text) > 15 || strings.Trim(t.Text, "0123456789") != "" {
			return m.wrong(at, 2)
		}
		n, _ := strconv.ParseInt(t.Text, 10, 64)
		return leaf(api.Expr{Kind: 1, N: int(n)})
	case t.Kind == 3:
		n := len(t.Text)
		if n < 2 || t.Text[0] != '"' || t.Text[n-1] != '"' {
			return m.wrong(at, 3)
		}
		return leaf(api.Expr{Kind: 2, Name: t.Text[1 : n-1]})
	case t.Kind == 5 && t.Text == "true":
		return leaf(api.Expr{Kind: 3, N: 1})
	case t.Kind == 5 && t.Text == "false":
		return leaf(api.Expr{Kind: 3})
	case m.is(at, "("):
		xs, next, d := m.elements(at, deep, ")", 1, 1)
		if d.Code != 0 {
			return api.Expr{}, 0, d
		}
		return xs[0], next, d
	case t.Kind == 5 && t.Text == "new":
		of, next, d := typex.Parse(m, at+1)
		if d.Code != 0 {
			return api.Expr{}, 0, d
		}
		if !m.is(next, "{") {
			return m.wrong(next, 5)
		}
		xs, next, d := m.elements(next, deep, "}", 0, 1<<30)
		if d.Code != 0 {
			return api.Expr{}, 0, d
		}
		return m.made(api.Expr{Kind: 8, T: of, Args: xs}, at, next), next, d
	}
	return m.wrong(at, 5)
}

// against holds Parse against the model.
func against(t *testing.T, l []api.Token, at int) {
	t.Helper()
	want, behind, wrong := model(l).expr(at, 0)
	x, next, d := exprx.Parse(l, at)
	if !same(x, want) || next != behind || d != wrong {
		t.Fatalf("Parse(%v, %d):\n%v, %d, %v; want\n%v, %d, %v", l, at, x, next, d, want, behind, wrong)
	}
	if d == (api.Diag{}) && next <= at {
		t.Fatalf("Parse(%v, %d): the index behind it: %d", l, at, next)
	}
}

// againstAll holds Parse against the model, from begin on, on all lists of up to so many tokens of an alphabet.
func againstAll(t *testing.T, alphabet []api.Token, most int, begin []api.Token) {
	var longer func(l []api.Token)
	longer = func(l []api.Token) {
		against(t, l, 0)
		if len(l) == len(begin)+most {
			return
		}
		for _, s := range alphabet {
			longer(list(l, one(s)))
		}
	}
	longer(list(begin))
}

// P4.1, P4.2: all short lists of tokens, of all kinds and of some.
func TestAllLists(t *testing.T) {
	a, number, wrong := name("a"), tok(api.TNumber, "1"), tok(api.TText, "x")
	againstAll(t, slices.Concat(symbols("! + * < && ( ) [ ] { } , . ="), one(a, number, wrong, word("new"), word("int"), word("true"), tok(api.TText, `""`), tok(api.TEnd, ""))), 3, nil)
	againstAll(t, slices.Concat(symbols("! ( ) [ ] , ."), one(a)), 6, nil)
	againstAll(t, slices.Concat(symbols("! && == - * ( )"), one(a)), 6, nil)
	againstAll(t, slices.Concat(symbols("[ ] { } , . +"), one(a, word("int"))), 5, one(word("new")))
	deep := slices.Repeat(symbols("!"), 27)
	againstAll(t, slices.Concat(symbols("! ( ) [ ]"), one(a, wrong)), 6, deep)
	againstAll(t, slices.Concat(symbols("! ( ) { }"), one(a, word("new"))), 6, deep)
}

// rule is a fixed rule that shuffles.
type rule uint32

func (r *rule) below(n int) int {
	*r = *r*1664525 + 1013904223
	return int(*r>>16) % n
}

// tight puts brackets around a sample that others would tear.
func tight(s sample, level, wanted int) sample {
	if level < wanted {
		return bracketed(s)
	}
	return s
}

// grown is an expression at most so deep, and its level.
func (r *rule) grown(deep int) (sample, int) {
	part := func(wanted int) sample {
		s, level := r.grown(deep - 1)
		return tight(s, level, wanted)
	}
	parts := func() []sample {
		var l []sample
		for range r.below(4) {
			l = append(l, part(1))
		}
		return l
	}
	if deep == 0 {
		all := []sample{named("a"), named("bc"), counted(7), counted(42), leaf(tok(api.TText, `"a ( b"`), api.Expr{Kind: api.EText, Name: "a ( b"}), leaf(word("true"), api.Expr{Kind: api.EBool, N: 1}), leaf(word("false"), api.Expr{Kind: api.EBool})}
		return all[r.below(len(all))], 6
	}
	switch r.below(9) {
	case 0, 1, 2:
		operator := []string{"&&", "==", "<", "+", "-", "*"}[r.below(6)]
		level := levelOf(operator)
		return bin(operator, part(level), part(level+1)), level
	case 3:
		return not(part(5)), 5
	case 4:
		return selected(part(6), "s"), 6
	case 5:
		return call(part(6), parts()...), 6
	case 6:
		return index(part(6), part(1)), 6
	case 7:
		of := kindsOfTypes()
		return create(of[r.below(len(of)-1)], parts()...), 6
	}
	return bracketed(part(1)), 6
}

// P4.1: expressions of all kinds in one another, in an order that a fixed rule shuffles.
func TestGrown(t *testing.T) {
	r := rule(1)
	for i := range 1500 {
		s, _ := r.grown(i % 7)
		wantSample(t, s)
	}
}

// P4.2: the same with a token put in, taken out or changed, from each of some indices on.
func TestSpoilt(t *testing.T) {
	r := rule(2)
	others := slices.Concat(symbols("! + * && ( ) [ ] { } , . ="), one(name("a"), word("new"), word("int"), tok(api.TNumber, "1"), tok(api.TNumber, "x"), tok(api.TText, "x"), tok(api.TEnd, "")))
	for i := range 6000 {
		s, _ := r.grown(i % 6)
		l := slices.Clone(s.tokens)
		for range 1 + i%2 {
			at, other := r.below(len(l)), others[r.below(len(others))]
			switch r.below(3) {
			case 0:
				l = slices.Insert(l, at, other)
			case 1:
				l[at] = other
			default:
				l = append(slices.Delete(l, at, at+1), symbol(";"))
			}
		}
		l = list(l)
		against(t, l, 0)
		against(t, l, r.below(len(l)))
	}
}

// moved is an expression, so many bytes further.
func moved(x api.Expr, by int) api.Expr {
	x.At, x.End = x.At+by, x.End+by
	if x.Kind == api.ENew {
		x.T = movedType(x.T, by)
	}
	x.Args = slices.Clone(x.Args)
	for i, a := range x.Args {
		x.Args[i] = moved(a, by)
	}
	return x
}

func movedType(x api.TypeX, by int) api.TypeX {
	x.At += by
	x.Args = slices.Clone(x.Args)
	for i, a := range x.Args {
		x.Args[i] = movedType(a, by)
	}
	return x
}

// written is a sample's text, with layout and comments that a rule chooses.
func (r *rule) written(s sample) string {
	text := ""
	for _, t := range s.tokens {
		text += []string{" ", "\n", "\t \r", " // a ( b\n", " "}[r.below(5)] + t.Text
	}
	return text + " "
}

// wantParts holds what P4.3 says of an expression in a text, and of its parts.
func wantParts(t *testing.T, text string, x api.Expr) {
	t.Helper()
	if x.At < 0 || x.At >= x.End || x.End > len(text) {
		t.Fatalf("%q: %v", text, x)
	}
	own := text[x.At:x.End]
	if strings.TrimSpace(own) != own || strings.HasPrefix(own, "//") {
		t.Errorf("%q of %q begins or ends with no token", own, text)
	}
	// What is written there is this expression, and nothing else.
	l := texts(t, own)
	y, next, d := exprx.Parse(l, 0)
	if !same(moved(y, x.At), x) || next != len(l) || d != (api.Diag{}) {
		t.Errorf("%q of %q:\n%v, %d, %v; want\n%v", own, text, y, next, d, x)
	}
	at := x.At
	if x.Kind == api.ENew {
		if x.T.At <= at {
			t.Errorf("%q: the type of %v", text, x)
		}
		at = x.T.At + 1
	}
	for _, a := range x.Args {
		if a.At < at || a.End > x.End {
			t.Errorf("%q: %v lies outside of %v, or ahead of a part before it", text, a, x)
		}
		at = a.End
		wantParts(t, text, a)
	}
}

// P4.3: an expression begins at its At and ends at its End; its parts lie within it, one after the other.
func TestParts(t *testing.T) {
	r := rule(3)
	for i := range 400 {
		s, _ := r.grown(i % 5)
		text := r.written(s)
		l := texts(t, text)
		x, next, d := exprx.Parse(l, 0)
		if next != len(l) || d != (api.Diag{}) {
			t.Fatalf("%q: %d, %v", text, next, d)
		}
		wantParts(t, text, x)
	}
}

// P4.3: brackets around an expression change nothing but what follows: behind them an operator or a selector holds for all of it.
func TestBracketsAround(t *testing.T) {
	r := rule(4)
	for i := range 400 {
		s, _ := r.grown(i % 5)
		bare, _, _ := exprx.Parse(list(symbols(";"), s.tokens), 1)
		wantExpr(t, list(symbols("("), s.tokens, symbols(")")), 0, bare, len(s.tokens)+2)
		wantSample(t, bracketed(bracketed(s)))
		wantSample(t, selected(bracketed(s), "a"))
		wantSample(t, not(bracketed(s)))
		wantSample(t, bin("*", bracketed(s), bracketed(s)))
		wantSample(t, call(bracketed(s), bracketed(s), s))
		wantSample(t, index(bracketed(s), s))
	}
}

// P4.3: layout and comments change nothing but offsets.
func TestLayout(t *testing.T) {
	r := rule(5)
	for i := range 400 {
		s, _ := r.grown(i % 5)
		one, other := list(texts(t, r.written(s))), list(texts(t, r.written(s)))
		if !slices.Equal(one, other) {
			t.Fatalf("%v, %v", one, other)
		}
		wantExpr(t, one, 0, s.at(0), len(s.tokens))
	}
}

// R1: no index, kind or text makes it panic.
func TestNoPanic(t *testing.T) {
	for _, s := range slices.Concat(strangers(), strangersBehind()) {
		for _, at := range []int{math.MinInt, -1, 0, 1, 2, math.MaxInt} {
			against(t, list(one(s)), at)
			against(t, list(one(s, s)), at)
			against(t, list(one(name("a"), s, s)), at)
		}
	}
}

// R4: the tokens stay as they are, those in the spare capacity too, and these are not read.
func TestArgument(t *testing.T) {
	for _, text := range []string{"f(a,b)[c].d*!e", "new []a.T{1,\"t\"}(x)", "((a+b)", "new [", "a+b+c+d", "f(,"} {
		all := texts(t, text)
		before := slices.Clone(all)
		for n := range len(all) + 1 {
			short, clipped := all[:n], slices.Clip(slices.Clone(all[:n]))
			for at := range n + 1 {
				x, next, d := exprx.Parse(short, at)
				y, behind, wrong := exprx.Parse(clipped, at)
				if !same(x, y) || next != behind || d != wrong {
					t.Errorf("%q up to %d from %d: %v, %d, %v; clipped: %v, %d, %v", text, n, at, x, next, d, y, behind, wrong)
				}
			}
		}
		if !slices.Equal(all, before) {
			t.Errorf("%q: the tokens are now %v", text, all)
		}
	}
}

// overwrite changes all lists of an expression, up to their capacities.
func overwrite(x api.Expr) {
	for _, a := range x.Args {
		overwrite(a)
	}
	for of := x.T.Args; len(of) > 0; {
		inner := of[0].Args
		all := of[:cap(of)]
		for i := range all {
			all[i] = api.TypeX{Name: "changed"}
		}
		of = inner
	}
	all := x.Args[:cap(x.Args)]
	for i := range all {
		all[i] = api.Expr{Name: "changed"}
	}
}

// names are all names in an expression.
func names(x api.Expr) []string {
	l := []string{x.Name}
	for of := []api.TypeX{x.T}; len(of) > 0; of = of[0].Args {
		l = append(l, of[0].Pkg, of[0].Name)
	}
	for _, a := range x.Args {
		l = append(l, names(a)...)
	}
	return l
}

// outside tells whether a text is memory of its own.
func outside(text, other string) bool {
	at, begin := uintptr(unsafe.Pointer(unsafe.StringData(text))), uintptr(unsafe.Pointer(unsafe.StringData(other)))
	return at+uintptr(len(text)) <= begin || at >= begin+uintptr(len(other))
}

// R4: an expression is new memory: it keeps neither the tokens nor their texts, its lists share none, and none with another expression.
func TestNewMemory(t *testing.T) {
	source := strings.Clone(`(fun(a1,"a ( b")[bc].sel*!new[]c.T{x,y,z}+-&&==<1)`)
	r := rule(6)
	samples := []sample{
		index(call(named("f"), named("a"), bin("+", named("b"), named("c")), create(kindsOfTypes()[6], named("x"), not(named("y")))), counted(1)),
		bin("&&", bin("&&", named("a"), call(named("b"))), create(one(name("T")), named("z"))),
	}
	for range 200 {
		s, _ := r.grown(4)
		samples = append(samples, s)
	}
	for _, s := range samples {
		l := list(s.tokens)
		for i, k := range l {
			if at := strings.Index(source, k.Text); at >= 0 {
				l[i].Text = source[at : at+len(k.Text)]
			}
		}
		x, _, _ := exprx.Parse(l, 0)
		y, _, _ := exprx.Parse(l, 0)
		clear(l)
		if !same(x, s.at(0)) {
			t.Fatalf("%v; want %v", x, s.at(0))
		}
		for _, n := range names(x) {
			if n != "" && !outside(n, source) {
				t.Errorf("%q is memory of a token's text", n)
			}
		}
		for i, part := range x.Args {
			want := s.at(0)
			overwrite(part)
			x.Args[i] = api.Expr{}
			for j := i + 1; j < len(x.Args); j++ {
				if !same(x.Args[j], want.Args[j]) {
					t.Fatalf("parts %d and %d of %v share memory", i, j, want)
				}
			}
		}
		overwrite(x)
		if !same(y, s.at(0)) {
			t.Errorf("%v; want %v", y, s.at(0))
		}
	}
}

// R5: the same answer each time, whatever was asked before.
func TestAgain(t *testing.T) {
	l := list(texts(t, "new []a.T{f(x,1).g[2],!(a+b)*c}=="), one(tok(api.TNumber, "x"), tok(api.TText, "x")), slices.Repeat(symbols("("), 31))
	type answer struct {
		x    api.Expr
		next int
		d    api.Diag
	}
	first := make([]answer, len(l)+1)
	for round := range 3 {
		for at := range first {
			x, next, d := exprx.Parse(l, at)
			told := answer{x, next, d}
			if round > 0 && !reflect.DeepEqual(told, first[at]) {
				t.Errorf("from %d: %v, then %v", at, first[at], told)
			}
			first[at] = told
		}
	}
}
