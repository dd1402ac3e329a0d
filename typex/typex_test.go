package typex_test

import (
	"math"
	"reflect"
	"slices"
	"strconv"
	"strings"
	"testing"
	"unsafe"

	"quoin/api"
	"quoin/lex"
	"quoin/typex"
)

// odd numbers tokens' places as no text does, so that each place tells its token.
func oddAt(i int) int  { return 1000 - 7*i }
func oddEnd(i int) int { return -3 - 5*i }

// tok is a token's kind and text; its place comes from where it stands.
func tok(kind int, text string) api.Token { return api.Token{Kind: kind, Text: text} }

func word(text string) api.Token   { return tok(api.TWord, text) }
func name(text string) api.Token   { return tok(api.TName, text) }
func symbol(text string) api.Token { return tok(api.TSymbol, text) }

// list places tokens oddly.
func list(parts ...[]api.Token) []api.Token {
	l := slices.Concat(parts...)
	for i := range l {
		l[i].At, l[i].End = oddAt(i), oddEnd(i)
	}
	return l
}

// lists are so many `[` `]`.
func lists(n int) []api.Token {
	return slices.Repeat([]api.Token{symbol("["), symbol("]")}, n)
}

func one(tokens ...api.Token) []api.Token { return tokens }

// nest is a type inside so many lists, whose first one begins at token from.
func nest(x api.TypeX, from, n int) api.TypeX {
	for i := n - 1; i >= 0; i-- {
		x = api.TypeX{Kind: api.XList, At: oddAt(from + 2*i), Args: []api.TypeX{x}}
	}
	return x
}

func same(a, b api.TypeX) bool {
	return a.Kind == b.Kind && a.At == b.At && a.Pkg == b.Pkg && a.Name == b.Name && slices.EqualFunc(a.Args, b.Args, same)
}

func wantType(t *testing.T, l []api.Token, at int, want api.TypeX, behind int) {
	t.Helper()
	x, next, d := typex.Parse(l, at)
	if !same(x, want) || next != behind || d != (api.Diag{}) {
		t.Errorf("Parse(%v, %d): %v, %d, %v; want %v, %d", l, at, x, next, d, want, behind)
	}
}

func wantWrong(t *testing.T, l []api.Token, at, place, code int) {
	t.Helper()
	x, next, d := typex.Parse(l, at)
	if !same(x, api.TypeX{}) || next != 0 || d != (api.Diag{At: place, Code: code}) {
		t.Errorf("Parse(%v, %d): %v, %d, %v; want error %d at %d", l, at, x, next, d, code, place)
	}
}

// texts are lex's tokens of a text, without the end.
func texts(t *testing.T, text string) []api.Token {
	t.Helper()
	l, d := lex.All(text)
	if d != (api.Diag{}) {
		t.Fatal(text, d)
	}
	return l[:len(l)-1]
}

func TestExamples(t *testing.T) {
	wantType(t, texts(t, "int;"), 0, api.TypeX{Kind: api.XInt}, 1)
	a := api.TypeX{Kind: api.XName, At: 3, Pkg: "a", Name: "T"}
	wantType(t, texts(t, "[] a.T"), 0, api.TypeX{Kind: api.XList, Args: []api.TypeX{a}}, 5)
	wantWrong(t, texts(t, "a.;"), 0, 2, api.DSyntax)
	wantWrong(t, texts(t, "[int"), 0, 1, api.DSyntax)
	wantWrong(t, nil, 0, 0, api.DSyntax)
}

// The numbers of kinds, codes and limits, as the chapter lists them.
func TestNumbers(t *testing.T) {
	if !slices.Equal([]int{api.XInt, api.XBool, api.XText, api.XName, api.XList}, []int{1, 2, 3, 4, 5}) {
		t.Error("kinds")
	}
	if api.DSyntax != 5 || api.DDeep != 6 || api.MaxDeep != 30 {
		t.Error("codes, limit")
	}
}

// sample is a type's tokens, and the type, if it begins at token from.
type sample struct {
	tokens []api.Token
	at     func(from int) api.TypeX
}

func plain(kind int) func(int) api.TypeX {
	return func(from int) api.TypeX { return api.TypeX{Kind: kind, At: oddAt(from)} }
}

func named(pkg, of string) func(int) api.TypeX {
	return func(from int) api.TypeX { return api.TypeX{Kind: api.XName, At: oddAt(from), Pkg: pkg, Name: of} }
}

func samples() []sample {
	dot := symbol(".")
	return []sample{
		{one(word("int")), plain(api.XInt)},
		{one(word("bool")), plain(api.XBool)},
		{one(word("text")), plain(api.XText)},
		{one(name("a")), named("", "a")},
		{one(name("T_1")), named("", "T_1")},
		{one(name("a"), dot, name("T")), named("a", "T")},
		{one(name("a"), dot, name("a")), named("a", "a")},
		// What lex can't produce: names with any bytes.
		{one(name("int")), named("", "int")},
		{one(name("struct")), named("", "struct")},
		{one(name("")), named("", "")},
		{one(name("[")), named("", "[")},
		{one(name(".")), named("", ".")},
		{one(name("\x00\xff")), named("", "\x00\xff")},
		{one(name(strings.Repeat("n", 500))), named("", strings.Repeat("n", 500))},
		{one(name("int"), dot, name("bool")), named("int", "bool")},
		{one(name(""), dot, name("T")), named("", "T")},
		{one(name("a"), dot, name("")), named("a", "")},
		{one(name("."), dot, name(".")), named(".", ".")},
	}
}

// P3.1: each type, alone and inside lists, from each index on.
func TestTypes(t *testing.T) {
	for _, s := range samples() {
		for _, deep := range []int{0, 1, 2, 3, 29, 30} {
			for _, before := range [][]api.Token{nil, one(symbol(";")), lists(40), one(word("int"), symbol("["), name("a"), symbol(".")), lists(2)[:3]} {
				from := len(before)
				l := list(before, lists(deep), s.tokens)
				wantType(t, l, from, nest(s.at(from+2*deep), from, deep), len(l))
			}
		}
	}
}

// P3.1: inside of lists too, each type begins at the offset of its first token.
func TestText(t *testing.T) {
	l := texts(t, "x [ ]\n[] // []\n  ab . cd ;")
	inner := api.TypeX{Kind: api.XName, At: 17, Pkg: "ab", Name: "cd"}
	wantType(t, l, 1, api.TypeX{Kind: api.XList, At: 2, Args: []api.TypeX{{Kind: api.XList, At: 6, Args: []api.TypeX{inner}}}}, 8)
	wantType(t, l, 3, api.TypeX{Kind: api.XList, At: 6, Args: []api.TypeX{inner}}, 8)
	wantType(t, l, 5, inner, 8)
	wantType(t, l, 7, api.TypeX{Kind: api.XName, At: 22, Name: "cd"}, 8)
	wantWrong(t, l, 2, 4, api.DSyntax)
	wantWrong(t, l, 6, 20, api.DSyntax)
	wantWrong(t, l, 8, 25, api.DSyntax)
}

// strangers are tokens with which no type begins.
func strangers() []api.Token {
	l := []api.Token{
		tok(api.TEnd, ""), tok(api.TEnd, "int"), tok(api.TNumber, "1"), tok(api.TNumber, "int"), tok(api.TText, `"int"`), tok(api.TText, "int"), tok(api.TText, "["),
		word(""), word("["), word("a"), word("Int"), word("int "), word("ints"), word("in"), word("INT"), word("\x00int"), word("."),
		symbol("int"), symbol("a"), symbol(""), symbol("[]"), symbol("[ "), symbol("]["),
		tok(-1, "int"), tok(6, "int"), tok(6, "["), tok(99, "a"), tok(math.MinInt, "["), tok(math.MaxInt, "a"),
	}
	for _, s := range strings.Fields("package import type struct interface func let if else for return new true false") {
		l = append(l, word(s))
	}
	for _, s := range strings.Fields("( ) { } ] , ; . = == && < + - * !") {
		l = append(l, symbol(s))
	}
	return l
}

// P3.1: a token with which no type begins, alone, inside lists, and whatever follows it.
func TestStrangers(t *testing.T) {
	for _, s := range strangers() {
		for _, deep := range []int{0, 1, 2, 30} {
			for _, behind := range [][]api.Token{nil, one(word("int")), one(symbol("]"), name("a")), one(symbol("."), name("T"))} {
				wantWrong(t, list(lists(deep), one(s), behind), 0, oddAt(2*deep), api.DSyntax)
			}
		}
	}
}

// P3.1: what follows a `[` is a `]`, or in error.
func TestUnclosed(t *testing.T) {
	others := append(strangers(), word("int"), word("bool"), word("text"), name("a"), name("]"), tok(api.TText, "]"), word("]"), symbol("["), tok(api.TEnd, "]"))
	for _, s := range others {
		if s == symbol("]") {
			continue
		}
		for _, deep := range []int{0, 1, 2, 29} {
			for _, behind := range [][]api.Token{nil, one(symbol("]"), word("int")), one(name("a"))} {
				wantWrong(t, list(lists(deep), one(symbol("["), s), behind), 0, oddAt(2*deep+1), api.DSyntax)
			}
		}
	}
	for _, deep := range []int{0, 1, 29} {
		l := list(lists(deep), one(symbol("[")))
		wantWrong(t, l, 0, oddEnd(len(l)-1), api.DSyntax)
	}
}

// P3.1: behind a name and `.` stands a name, or the token there is in error.
func TestNoNameBehindDot(t *testing.T) {
	others := append(strangers(), word("int"), word("bool"), word("text"), symbol("["), tok(api.TText, "T"), tok(api.TEnd, "T"))
	for _, s := range others {
		for _, deep := range []int{0, 1, 30} {
			for _, behind := range [][]api.Token{nil, one(name("T"))} {
				wantWrong(t, list(lists(deep), one(name("a"), symbol("."), s), behind), 0, oddAt(2*deep+2), api.DSyntax)
			}
		}
	}
	for _, deep := range []int{0, 1, 30} {
		l := list(lists(deep), one(name("a"), symbol(".")))
		wantWrong(t, l, 0, oddEnd(len(l)-1), api.DSyntax)
	}
}

// P3.1: only a TSymbol `.` goes on a name.
func TestNoDot(t *testing.T) {
	for _, s := range []api.Token{name("."), word("."), tok(api.TText, "."), tok(api.TNumber, "."), tok(api.TEnd, "."), tok(9, "."), symbol(""), symbol(".."), symbol(". "), symbol(",")} {
		l := list(one(name("a"), s, name("T")))
		wantType(t, l, 0, named("", "a")(0), 1)
	}
}

// P3.1: a list needs an element.
func TestNoElement(t *testing.T) {
	for _, deep := range []int{1, 2, 30} {
		l := list(lists(deep))
		wantWrong(t, l, 0, oddEnd(len(l)-1), api.DSyntax)
		wantWrong(t, list(lists(deep), one(tok(api.TEnd, ""))), 0, oddAt(2*deep), api.DSyntax)
	}
}

// P3.1: 30 nested lists may be; the 31st `[` is DDeep, whatever follows it.
func TestDeep(t *testing.T) {
	l := list(lists(30), one(word("int")))
	wantType(t, l, 0, nest(plain(api.XInt)(60), 0, 30), 61)
	x, _, _ := typex.Parse(l, 0)
	for deep := range 30 {
		if x.Kind != api.XList || len(x.Args) != 1 {
			t.Fatalf("at depth %d: %v", deep, x)
		}
		x = x.Args[0]
	}
	open := symbol("[")
	for _, behind := range [][]api.Token{nil, one(symbol("]")), one(symbol("]"), word("int")), one(word("int")), one(open), one(tok(api.TEnd, "")), lists(1), one(symbol(";")), slices.Concat(one(symbol("]")), lists(5000), one(name("a")))} {
		l := list(lists(30), one(open), behind)
		wantWrong(t, l, 0, oddAt(60), api.DDeep)
	}
	for _, n := range []int{31, 32, 100, 100000} {
		wantWrong(t, list(lists(n), one(word("int"))), 0, oddAt(60), api.DDeep)
		wantWrong(t, list(one(open), lists(n), one(word("int"))), 1, oddAt(61), api.DDeep)
	}
	// An error before the 31st is the first from the left.
	wantWrong(t, list(lists(29), one(open, open), lists(5)), 0, oddAt(59), api.DSyntax)
	wantWrong(t, list(lists(30), one(symbol("]")), lists(5)), 0, oddAt(60), api.DSyntax)
}

// P3.1: where there is no token, there is an end, at the last one's End.
func TestNoToken(t *testing.T) {
	for _, l := range [][]api.Token{nil, {}, list(one(word("int")))[:0]} {
		for _, at := range []int{0, 1, -1, 61, math.MaxInt, math.MaxInt - 1, math.MinInt} {
			wantWrong(t, l, at, 0, api.DSyntax)
		}
	}
	for _, end := range []int{0, 1, 77, -5, math.MaxInt, math.MinInt} {
		for _, l := range [][]api.Token{one(word("int")), one(word("int"), symbol(";")), lists(3), one(symbol("["), name("a")), one(tok(api.TEnd, ""))} {
			l = list(l)
			l[len(l)-1].End = end
			for _, at := range []int{len(l), len(l) + 1, len(l) + 100, -1, -2, -len(l), math.MaxInt, math.MaxInt - 1, math.MinInt, math.MinInt + 1} {
				wantWrong(t, l, at, end, api.DSyntax)
			}
		}
	}
}

// P3.1: a token is judged by its Kind and Text alone: any places are answered as they are.
func TestPlaces(t *testing.T) {
	for _, at := range []int{0, -1, 5, math.MaxInt, math.MinInt} {
		for _, end := range []int{0, -1, 5, math.MaxInt, math.MinInt} {
			put := func(tokens ...api.Token) []api.Token {
				for i := range tokens {
					tokens[i].At, tokens[i].End = at, end
				}
				return tokens
			}
			wantType(t, put(word("bool")), 0, api.TypeX{Kind: api.XBool, At: at}, 1)
			inner := api.TypeX{Kind: api.XName, At: at, Pkg: "a", Name: "b"}
			wantType(t, put(symbol("["), symbol("]"), name("a"), symbol("."), name("b")), 0, api.TypeX{Kind: api.XList, At: at, Args: []api.TypeX{inner}}, 5)
			wantWrong(t, put(symbol("]")), 0, at, api.DSyntax)
			wantWrong(t, put(lists(31)...), 0, at, api.DDeep)
			wantWrong(t, put(name("a"), symbol(".")), 0, end, api.DSyntax)
		}
	}
}

// P3.2: what follows a type does not matter, but for `.` behind a name.
func TestBehind(t *testing.T) {
	all := append(strangers(), word("int"), word("text"), name("a"), symbol("["))
	for _, s := range samples() {
		bareName := len(s.tokens) == 1 && s.tokens[0].Kind == api.TName
		for _, deep := range []int{0, 1, 30} {
			for _, first := range all {
				if bareName && first == symbol(".") {
					continue
				}
				for _, more := range [][]api.Token{nil, one(name("T")), one(symbol("]"), word("int")), one(symbol("."), name("T"))} {
					l := list(lists(deep), s.tokens, one(first), more)
					end := 2*deep + len(s.tokens)
					wantType(t, l, 0, nest(s.at(2*deep), 0, deep), end)
				}
			}
		}
	}
}

// P3.2: behind a package's name and its `.`, a second `.` goes nothing on.
func TestSecondDot(t *testing.T) {
	dot := symbol(".")
	wantType(t, list(one(name("a"), dot, name("b"), dot, name("c"))), 0, named("a", "b")(0), 3)
	wantType(t, list(one(name("a"), dot, name("b"), dot)), 0, named("a", "b")(0), 3)
	wantType(t, list(one(word("int"), dot, name("c"))), 0, plain(api.XInt)(0), 1)
	wantType(t, list(one(word("int"), dot)), 0, plain(api.XInt)(0), 1)
}

// model parses as the chapter writes it: one type inside the other, with the `[` counted on the way in.
func model(l []api.Token, at, deep int) (api.TypeX, int, api.Diag) {
	look := func(i int) api.Token {
		if i < 0 || i >= len(l) {
			if len(l) == 0 {
				return api.Token{}
			}
			return api.Token{At: l[len(l)-1].End}
		}
		return l[i]
	}
	is := func(i, kind int, text string) bool { return look(i).Kind == kind && look(i).Text == text }
	wrong := func(i, code int) (api.TypeX, int, api.Diag) {
		return api.TypeX{}, 0, api.Diag{At: look(i).At, Code: code}
	}
	x := api.TypeX{At: look(at).At}
	for i, w := range []string{"int", "bool", "text"} {
		if is(at, 5, w) {
			x.Kind = 1 + i
			return x, at + 1, api.Diag{}
		}
	}
	if look(at).Kind == 1 {
		x.Kind, x.Name = 4, look(at).Text
		if !is(at+1, 4, ".") {
			return x, at + 1, api.Diag{}
		}
		if look(at+2).Kind != 1 {
			return wrong(at+2, 5)
		}
		x.Pkg, x.Name = x.Name, look(at+2).Text
		return x, at + 3, api.Diag{}
	}
	if !is(at, 4, "[") {
		return wrong(at, 5)
	}
	if deep == 30 {
		return wrong(at, 6)
	}
	if !is(at+1, 4, "]") {
		return wrong(at+1, 5)
	}
	inner, next, d := model(l, at+2, deep+1)
	if d != (api.Diag{}) {
		return api.TypeX{}, 0, d
	}
	x.Kind, x.Args = 5, []api.TypeX{inner}
	return x, next, d
}

func against(t *testing.T, l []api.Token, at int) {
	t.Helper()
	want, behind, wrong := model(l, at, 0)
	x, next, d := typex.Parse(l, at)
	if !same(x, want) || next != behind || d != wrong {
		t.Fatalf("Parse(%v, %d): %v, %d, %v; want %v, %d, %v", l, at, x, next, d, want, behind, wrong)
	}
	if d == (api.Diag{}) && next <= at {
		t.Fatalf("Parse(%v, %d): the index behind it: %d", l, at, next)
	}
}

// P3.1, P3.2: all lists of up to 5 tokens, from each index on.
func TestAllLists(t *testing.T) {
	alphabet := []api.Token{word("int"), word("text"), word("new"), name("a"), name("B"), symbol("["), symbol("]"), symbol("."), tok(api.TEnd, "")}
	last := [][]api.Token{nil}
	for range 5 {
		var longer [][]api.Token
		for _, l := range last {
			for _, s := range alphabet {
				more := list(l, one(s))
				for at := -1; at <= len(more)+1; at++ {
					against(t, more, at)
				}
				longer = append(longer, more)
			}
		}
		last = longer
	}
}

// P3.1, P3.2: long lists of tokens in an order that a fixed rule shuffles.
func TestLongLists(t *testing.T) {
	parts := [][]api.Token{lists(1), lists(2), lists(29), lists(30), one(symbol("[")), one(symbol("]")), one(name("a")), one(name("a"), symbol(".")), one(word("int")), one(word("bool")), one(symbol(";"))}
	state := uint32(1)
	for range 300 {
		var l []api.Token
		for range 30 {
			state = state*1664525 + 1013904223
			l = append(l, parts[int(state>>16)%len(parts)]...)
		}
		l = list(l)
		for at := range len(l) + 2 {
			against(t, l, at)
		}
	}
}

// R1: no index, kind or text makes it panic.
func TestNoPanic(t *testing.T) {
	for _, s := range strangers() {
		for _, at := range []int{math.MinInt, -1, 0, 1, 2, math.MaxInt} {
			against(t, list(one(s)), at)
			against(t, list(one(s, s)), at)
		}
	}
}

// R4: the tokens stay as they are, those in the spare capacity too, and these are not read.
func TestArgument(t *testing.T) {
	for _, text := range []string{"[][]a.T;", "[]int a.b", "[][x", "a.a.a", "[][]text"} {
		all := texts(t, text)
		before := slices.Clone(all)
		for n := range len(all) + 1 {
			short, clipped := all[:n], slices.Clip(slices.Clone(all[:n]))
			for at := range n + 1 {
				x, next, d := typex.Parse(short, at)
				y, behind, wrong := typex.Parse(clipped, at)
				if !same(x, y) || next != behind || d != wrong {
					t.Errorf("%q up to %d from %d: %v, %d, %v; clipped: %v, %d, %v", text, n, at, x, next, d, y, behind, wrong)
				}
			}
		}
		if !slices.Equal(all, before) {
			t.Errorf("%q: the tokens are now %v", text, all)
		}
	}
}

// outside tells whether a text is memory of its own.
func outside(text, other string) bool {
	at, begin := uintptr(unsafe.Pointer(unsafe.StringData(text))), uintptr(unsafe.Pointer(unsafe.StringData(other)))
	return at+uintptr(len(text)) <= begin || at >= begin+uintptr(len(other))
}

// R4: a type is new memory: it keeps neither the tokens nor their texts, and shares nothing with another one.
func TestNewMemory(t *testing.T) {
	source := strings.Clone("abT")
	l := list(lists(2), one(name(source[:2]), symbol("."), name(source[2:])))
	x, _, _ := typex.Parse(l, 0)
	y, _, _ := typex.Parse(l, 0)
	z, _, _ := typex.Parse(l[:5], 4)
	clear(l)
	want := nest(named("ab", "T")(4), 0, 2)
	if !same(x, want) || !same(z, named("", "ab")(4)) {
		t.Fatalf("%v, %v; want %v", x, z, want)
	}
	inner := x.Args[0].Args[0]
	if !outside(inner.Pkg, source) || !outside(inner.Name, source) || !outside(z.Name, source) {
		t.Error("a name is memory of a token's text")
	}
	x.Args[0].Args[0].Name = "changed"
	x.Args[0] = api.TypeX{}
	_ = append(y.Args, api.TypeX{Name: "behind"})
	_ = append(y.Args[0].Args, api.TypeX{Name: "behind"})
	if !same(y, want) {
		t.Errorf("%v; want %v", y, want)
	}
}

// R5: the same answer each time, whatever was asked before.
func TestAgain(t *testing.T) {
	l := list(lists(30), one(name("a"), symbol("."), name("T"), symbol("["), word("int")))
	first := make([]string, len(l)+1)
	for round := range 3 {
		for at := range first {
			x, next, d := typex.Parse(l, at)
			told := strconv.Itoa(next) + " " + strconv.Itoa(d.At) + " " + strconv.Itoa(d.Code)
			if again, _, _ := typex.Parse(l, at); !reflect.DeepEqual(x, again) {
				t.Errorf("from %d: %v, then %v", at, x, again)
			}
			if round > 0 && told != first[at] {
				t.Errorf("from %d: %s, then %s", at, first[at], told)
			}
			first[at] = told
		}
	}
}
