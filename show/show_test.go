package show_test

import (
	"math"
	"reflect"
	"slices"
	"strconv"
	"strings"
	"testing"
	"unsafe"

	"quoin/api"
	"quoin/exprx"
	"quoin/filex"
	"quoin/lex"
	"quoin/show"
	"quoin/stmtx"
	"quoin/typex"
)

// typed is a type, and its text.
type typed struct {
	x    api.TypeX
	text string
}

func plain(kind int, text string) typed { return typed{api.TypeX{Kind: kind}, text} }

func typeNamed(text string) typed { return typed{api.TypeX{Kind: 4, Name: text}, text} }

func typeOf(pack, text string) typed {
	return typed{api.TypeX{Kind: 4, Pkg: pack, Name: text}, pack + "." + text}
}

func listOf(of typed) typed {
	return typed{api.TypeX{Kind: 5, Args: []api.TypeX{of.x}}, "[]" + of.text}
}

func bareTypes(l []typed) []api.TypeX {
	var xs []api.TypeX
	for _, t := range l {
		xs = append(xs, t.x)
	}
	return xs
}

// written are types that a text may have.
func written() []typed {
	l := []typed{plain(1, "int"), plain(2, "bool"), plain(3, "text"), typeNamed("T"), typeOf("b", "T")}
	for _, t := range slices.Clone(l) {
		l = append(l, listOf(t), listOf(listOf(t)))
	}
	return l
}

// oddTypes are types that no parser produces.
func oddTypes() []typed {
	l := []typed{{api.TypeX{Kind: 5}, "[]?"}, typeNamed(""), typeOf("b", ""), typeOf("\x00.", "\n\xff"), {api.TypeX{Kind: 5, Args: []api.TypeX{{Kind: 1}, {Kind: 2}}}, "[]int"}}
	for _, k := range []int{0, -1, 6, 7, math.MaxInt, math.MinInt} {
		l = append(l, typed{api.TypeX{Kind: k, Pkg: "b", Name: "T", Args: []api.TypeX{{Kind: 1}}}, "?"})
	}
	return append(l, listOf(l[0]), listOf(l[len(l)-1]))
}

// sample is an expression, its text without brackets around it, and its own level.
type sample struct {
	x     api.Expr
	text  string
	level int
}

// at is the text for a level.
func (s sample) at(level int) string {
	if s.level < level {
		return "(" + s.text + ")"
	}
	return s.text
}

func leaf(x api.Expr, text string) sample { return sample{x, text, 6} }

func counted(n int) sample { return leaf(api.Expr{Kind: 1, N: n}, strconv.Itoa(n)) }

func quoted(text string) sample { return leaf(api.Expr{Kind: 2, Name: text}, "\""+text+"\"") }

func truth(n int) sample {
	return leaf(api.Expr{Kind: 3, N: n}, map[bool]string{true: "true", false: "false"}[n == 1])
}

func named(text string) sample { return leaf(api.Expr{Kind: 4, Name: text}, text) }

func selected(a sample, text string) sample {
	return leaf(api.Expr{Kind: 5, Name: text, Args: []api.Expr{a.x}}, a.at(6)+"."+text)
}

// separated are expressions, and their text where a list of them stands.
func separated(l []sample) ([]api.Expr, string) {
	var xs []api.Expr
	var texts []string
	for _, s := range l {
		xs, texts = append(xs, s.x), append(texts, s.at(1))
	}
	return xs, strings.Join(texts, ", ")
}

func call(a sample, others ...sample) sample {
	xs, text := separated(others)
	return leaf(api.Expr{Kind: 6, Args: slices.Concat([]api.Expr{a.x}, xs)}, a.at(6)+"("+text+")")
}

func index(a, b sample) sample {
	return leaf(api.Expr{Kind: 7, Args: []api.Expr{a.x, b.x}}, a.at(6)+"["+b.at(1)+"]")
}

func create(of typed, elements ...sample) sample {
	xs, text := separated(elements)
	return leaf(api.Expr{Kind: 8, T: of.x, Args: xs}, "new "+of.text+"{"+text+"}")
}

// operators are the ones of each level.
func operators() [][]string {
	return [][]string{1: {"&&"}, 2: {"==", "<"}, 3: {"+", "-"}, 4: {"*"}}
}

func bin(operator string, a, b sample) sample {
	level := max(1, slices.IndexFunc(operators(), func(l []string) bool { return slices.Contains(l, operator) }))
	x := api.Expr{Kind: 9, Name: operator, Args: []api.Expr{a.x, b.x}}
	return sample{x, a.at(level) + " " + operator + " " + b.at(level+1), level}
}

func not(a sample) sample {
	return sample{api.Expr{Kind: 10, Args: []api.Expr{a.x}}, "!" + a.at(5), 5}
}

// built are expressions of each kind that has parts, with those ones.
func built(a, b, c sample) []sample {
	l := []sample{
		selected(a, "f"), call(a), call(a, b), call(a, b, c, a), index(a, b),
		create(typeNamed("T")), create(listOf(typeOf("b", "T")), a), create(plain(1, "int"), a, b, c), not(a),
	}
	for _, o := range slices.Concat(operators()...) {
		l = append(l, bin(o, a, b))
	}
	return l
}

// usual are expressions that a text may have.
func usual() []sample {
	l := []sample{counted(0), counted(7), counted(999999999999999), quoted(""), quoted("x y"), truth(0), truth(1), named("a"), named("_x1")}
	return append(l, built(named("a"), named("b"), named("c"))...)
}

// others are operators that are none.
func others() []string {
	return []string{"", "!", "=", "||", "&", "&&&", "===", "<=", ">", "/", "%", " +", "+ ", "a", "?", "(", "\x00\xff", "new"}
}

// oddExprs are expressions that no parser produces.
func oddExprs() []sample {
	l := []sample{
		leaf(api.Expr{Kind: 5}, "?."), leaf(api.Expr{Kind: 5, Name: "f"}, "?.f"),
		leaf(api.Expr{Kind: 6}, "?()"),
		leaf(api.Expr{Kind: 7}, "?[?]"), leaf(api.Expr{Kind: 7, Args: []api.Expr{{Kind: 4, Name: "a"}}}, "a[?]"),
		leaf(api.Expr{Kind: 8}, "new ?{}"),
		{api.Expr{Kind: 9}, "?  ?", 1}, {api.Expr{Kind: 9, Name: "+"}, "? + ?", 3}, {api.Expr{Kind: 9, Name: "*", Args: []api.Expr{{Kind: 4, Name: "a"}}}, "a * ?", 4},
		{api.Expr{Kind: 10}, "!?", 5},
		counted(-1), counted(math.MaxInt), counted(math.MinInt), truth(2), truth(-1), truth(math.MaxInt), truth(math.MinInt),
		quoted("\"\\\n\x00\xff"), named(""), named("\n(\xff"), named("new"),
	}
	for _, k := range []int{0, -1, 11, 12, math.MaxInt, math.MinInt} {
		l = append(l, leaf(api.Expr{Kind: k, Name: "x", N: 1, T: api.TypeX{Kind: 1}, Args: []api.Expr{{Kind: 4, Name: "a"}}}, "?"))
	}
	for _, o := range others() {
		l = append(l, bin(o, named("a"), named("b")))
	}
	return l
}

// tabs is how far in a line is.
func tabs(in int) string { return strings.Repeat("\t", max(0, min(in, 100))) }

// statement is one, and its text where its line is so many tabs in.
type statement struct {
	x    api.Stmt
	text func(in int) string
}

// simple is a statement of one line.
func simple(x api.Stmt, text string) statement {
	return statement{x, func(int) string { return text }}
}

func let(text string, x sample) statement {
	return simple(api.Stmt{Kind: 1, Name: text, X: x.x}, "let "+text+" = "+x.text+";")
}

func set(text string, x sample) statement {
	return simple(api.Stmt{Kind: 2, Name: text, X: x.x}, text+" = "+x.text+";")
}

func leave() statement { return simple(api.Stmt{Kind: 3}, "return;") }

func leaveWith(x sample) statement {
	return simple(api.Stmt{Kind: 3, Has: true, X: x.x}, "return "+x.text+";")
}

func branch(x sample, body ...statement) statement {
	return statement{api.Stmt{Kind: 4, X: x.x, Body: bare(body)}, func(in int) string {
		return "if " + x.text + " {\n" + block(body, in+1) + tabs(in) + "}"
	}}
}

// otherwise is a branch with an `else`.
func otherwise(s statement, body ...statement) statement {
	x := s.x
	x.Has, x.Else = true, bare(body)
	return statement{x, func(in int) string {
		return s.text(in) + " else {\n" + block(body, in+1) + tabs(in) + "}"
	}}
}

func loop(x sample, body ...statement) statement {
	return statement{api.Stmt{Kind: 5, X: x.x, Body: bare(body)}, func(in int) string {
		return "for " + x.text + " {\n" + block(body, in+1) + tabs(in) + "}"
	}}
}

func valued(x sample) statement {
	return simple(api.Stmt{Kind: 6, X: x.x}, x.text+";")
}

func bare(l []statement) []api.Stmt {
	var xs []api.Stmt
	for _, s := range l {
		xs = append(xs, s.x)
	}
	return xs
}

// block is the text of statements that are so many tabs in, 0 or more.
func block(l []statement, in int) string {
	text := ""
	for _, s := range l {
		text += tabs(in) + s.text(in) + "\n"
	}
	return text
}

// shapes are statements of each kind, with that expression.
func shapes(x sample) []statement {
	return []statement{
		let("x", x), set("x", x), leave(), leaveWith(x), valued(x),
		branch(x), branch(x, leave()), branch(x, leave(), let("y", x), leave()),
		otherwise(branch(x)), otherwise(branch(x), leave()), otherwise(branch(x, set("y", x)), leave(), set("z", x)),
		loop(x), loop(x, leave()), loop(x, valued(x), leave()),
	}
}

// oddStatements are statements that no parser produces.
func oddStatements() []statement {
	x := api.Expr{Kind: 4, Name: "a"}
	l := []statement{
		simple(api.Stmt{Kind: 1}, "let  = ?;"), simple(api.Stmt{Kind: 2}, " = ?;"), simple(api.Stmt{Kind: 3, X: x}, "return;"), simple(api.Stmt{Kind: 3, Has: true}, "return ?;"),
		simple(api.Stmt{Kind: 6}, "?;"), branch(leaf(api.Expr{}, "?")), loop(leaf(api.Expr{}, "?")), set("", oddExprs()[0]), let("\n", oddExprs()[1]),
	}
	for _, k := range []int{0, -1, 7, 8, math.MaxInt, math.MinInt} {
		l = append(l, simple(api.Stmt{Kind: k, Name: "x", Has: true, X: x, Body: []api.Stmt{{Kind: 3}}, Else: []api.Stmt{{Kind: 3}}}, "?"))
	}
	for _, s := range shapes(named("a")) {
		if !s.x.Has {
			s.x.Else = []api.Stmt{{Kind: 3}}
			l = append(l, s)
		}
	}
	return l
}

// param is a name and its type.
type param struct {
	name string
	of   typed
}

func (p param) text() string { return p.name + " " + p.of.text }

func params(l []param) ([]api.Param, string) {
	var xs []api.Param
	var texts []string
	for _, p := range l {
		xs, texts = append(xs, api.Param{Name: p.name, T: p.of.x}), append(texts, p.text())
	}
	return xs, strings.Join(texts, ", ")
}

// declared is a declaration, and its text.
type declared struct {
	x    api.Decl
	text string
}

func structure(text string, fields ...param) declared {
	xs, _ := params(fields)
	l := ""
	for _, f := range fields {
		l += " " + f.text() + ";"
	}
	return declared{api.Decl{Kind: 1, Name: text, Fields: xs}, "type " + text + " struct {" + l + " }"}
}

// method is one of an interface; without a result, that is nil.
type method struct {
	name   string
	result *typed
	params []typed
}

// behind is a result's text, and puts it into what has one.
func behind(result *typed, has *bool, x *api.TypeX) string {
	if result == nil {
		return ""
	}
	*has, *x = true, result.x
	return " " + result.text
}

func iface(text string, methods ...method) declared {
	d := declared{api.Decl{Kind: 2, Name: text}, "type " + text + " interface {"}
	for _, of := range methods {
		m := api.MethodX{Name: of.name, Params: bareTypes(of.params)}
		var l []string
		for _, p := range of.params {
			l = append(l, p.text)
		}
		d.text += " " + of.name + "(" + strings.Join(l, ", ") + ")" + behind(of.result, &m.Has, &m.Result) + ";"
		d.x.Methods = append(d.x.Methods, m)
	}
	d.text += " }"
	return d
}

// parts are those of a function; without a receiver or a result, these are nil.
type parts struct {
	recv           *param
	name           string
	bounds, params []param
	result         *typed
	body           []statement
}

func function(of parts) declared {
	d := declared{api.Decl{Kind: 3, Name: of.name, Body: bare(of.body)}, "func "}
	if of.recv != nil {
		d.x.Method, d.x.Recv = true, api.Param{Name: of.recv.name, T: of.recv.of.x}
		d.text += "(" + of.recv.text() + ") "
	}
	d.text += of.name
	bounds, text := params(of.bounds)
	if len(bounds) > 0 {
		d.text += "[" + text + "]"
	}
	d.x.Bounds = bounds
	d.x.Fields, text = params(of.params)
	d.text += "(" + text + ")" + behind(of.result, &d.x.Has, &d.x.Result) + " {\n" + block(of.body, 1) + "}"
	return d
}

// pack is a file, and its text.
func pack(text string, imports []string, decls ...declared) (api.File, string) {
	f := api.File{Name: text}
	text = "package " + text + ";\n"
	for _, i := range imports {
		f.Imports = append(f.Imports, api.Import{Name: i})
		text += "import " + i + ";\n"
	}
	for _, d := range decls {
		f.Decls = append(f.Decls, d.x)
		text += d.text + "\n"
	}
	return f, text
}

func wantText(t *testing.T, tree any, text, want string) {
	t.Helper()
	if text != want {
		t.Fatalf("%+v:\n%q; want\n%q", tree, text, want)
	}
}

func wantType(t *testing.T, of typed) {
	t.Helper()
	wantText(t, of.x, show.Type(of.x), of.text)
}

func wantExpr(t *testing.T, s sample) {
	t.Helper()
	wantText(t, s.x, show.Expr(s.x), s.text)
}

// wantStatement holds a statement alone, and among others, against its text.
func wantStatement(t *testing.T, s statement) {
	t.Helper()
	wantText(t, s.x, show.Block([]api.Stmt{s.x}, 0), s.text(0)+"\n")
	l := []statement{leave(), s, s, leave()}
	wantText(t, s.x, show.Block(bare(l), 2), block(l, 2))
}

func wantPack(t *testing.T, text string, imports []string, decls ...declared) {
	t.Helper()
	f, want := pack(text, imports, decls...)
	wantText(t, f, show.File(f), want)
}

// tokens are lex's of a text, without the end.
func tokens(text string) []api.Token {
	l, d := lex.All(text)
	if d != (api.Diag{}) {
		panic("no tokens: " + text)
	}
	return l[:len(l)-1]
}

// parsed is the expression that a text is; none if it is none.
func parsed(text string) (api.Expr, bool) {
	l := tokens(text)
	x, next, d := exprx.Parse(l, 0)
	return x, d == (api.Diag{}) && next == len(l)
}

func typeX(text string) api.TypeX {
	x, _, d := typex.Parse(tokens(text), 0)
	if d != (api.Diag{}) {
		panic("no type: " + text)
	}
	return x
}

func statements(text string) []api.Stmt {
	l, _, d := stmtx.Parse(tokens(text), 0)
	if d != (api.Diag{}) {
		panic("no block: " + text)
	}
	return l
}

// placeless changes all offsets in what a pointer is to, or in its parts, to 0, and lists of nothing to none.
func placeless(v reflect.Value) {
	switch v.Kind() {
	case reflect.Slice:
		if v.Len() == 0 {
			v.SetZero()
		}
		for i := range v.Len() {
			placeless(v.Index(i))
		}
	case reflect.Struct:
		for i := range v.NumField() {
			if n := v.Type().Field(i).Name; n == "At" || n == "End" {
				v.Field(i).SetInt(0)
			}
			placeless(v.Field(i))
		}
	}
}

// same tells whether two trees are, but for offsets, which both of them lose.
func same[T any](a, b *T) bool {
	placeless(reflect.ValueOf(a).Elem())
	placeless(reflect.ValueOf(b).Elem())
	return reflect.DeepEqual(a, b)
}

// P7.1, P7.2: the chapter's examples.
func TestExamples(t *testing.T) {
	for text, want := range map[string]string{
		"a+b*c": "a + b * c", "(a+b)*c": "(a + b) * c", "a-(b-c)": "a - (b - c)", "!(a==b)": "!(a == b)", "(!a).f": "(!a).f",
		"f ( x,1 ) [ 2 ]": "f(x, 1)[2]", "new []T { }": "new []T{}",
	} {
		x, _ := parsed(text)
		wantText(t, text, show.Expr(x), want)
	}
	wantText(t, "none", show.Expr(api.Expr{}), "?")
	wantText(t, "!", show.Expr(api.Expr{Kind: api.ENot}), "!?")
}

// P7.1: types of each kind, and lists of them.
func TestTypes(t *testing.T) {
	for text, want := range map[string]string{
		"int": "int", "bool": "bool", "text": "text", "T": "T", "b.T": "b.T", "b . T": "b.T", "[]int": "[]int", "[ ]b.T": "[]b.T", "[][][]T": "[][][]T", "a.b.c": "a.b", "_.x1": "_.x1",
		strings.Repeat("[ ]", 30) + "text": strings.Repeat("[]", 30) + "text",
	} {
		wantText(t, text, show.Type(typeX(text)), want)
	}
	for _, x := range slices.Concat(written(), oddTypes()) {
		wantType(t, x)
		for range 40 {
			x = listOf(x)
			wantType(t, x)
		}
	}
}

// P7.1: what is not there, or not known.
func TestNoType(t *testing.T) {
	for want, x := range map[string]api.TypeX{
		"?": {}, "[]?": {Kind: api.XList}, "[][]?": {Kind: api.XList, Args: []api.TypeX{{Kind: api.XList, Args: []api.TypeX{}}}}, "": {Kind: api.XName},
		"b.": {Kind: api.XName, Pkg: "b"}, "[]": {Kind: api.XList, Args: []api.TypeX{{Kind: api.XName}}},
		"..": {Kind: api.XName, Pkg: ".", Name: ""}, "[]bool": {Kind: api.XList, Args: []api.TypeX{{Kind: api.XBool}, {Kind: api.XInt}}},
	} {
		wantText(t, x, show.Type(x), want)
	}
	for k := -300; k <= 300; k++ {
		if k < 1 || k > 5 {
			wantText(t, k, show.Type(api.TypeX{Kind: k, Pkg: "b", Name: "T", Args: []api.TypeX{{Kind: 1}}}), "?")
		}
	}
}

// P7.2: numbers, texts, names and truths.
func TestLeaves(t *testing.T) {
	for want, x := range map[string]api.Expr{
		"0": {Kind: 1}, "1": {Kind: 1, N: 1}, "10": {Kind: 1, N: 10}, "-1": {Kind: 1, N: -1}, "999999999999999": {Kind: 1, N: 999999999999999},
		"9223372036854775807": {Kind: 1, N: math.MaxInt}, "-9223372036854775808": {Kind: 1, N: math.MinInt},
		`""`: {Kind: 2}, `"a b"`: {Kind: 2, Name: "a b"}, `"""`: {Kind: 2, Name: `"`}, `"\n"`: {Kind: 2, Name: `\n`}, "\"\n\t\"": {Kind: 2, Name: "\n\t"},
		"true": {Kind: 3, N: 1}, "false": {Kind: 3}, "a": {Kind: 4, Name: "a"}, "": {Kind: 4}, "a b": {Kind: 4, Name: "a b"},
	} {
		wantText(t, x, show.Expr(x), want)
	}
	for _, n := range []int{-2, -1, 0, 2, 3, 256, 257, 1 << 32, 1<<32 + 1, math.MaxInt, math.MinInt} {
		wantText(t, n, show.Expr(api.Expr{Kind: api.EBool, N: n}), "false")
	}
	for b := range 256 {
		s := string([]byte{byte(b)})
		wantExpr(t, quoted(s))
		wantExpr(t, named(s))
		wantExpr(t, selected(named("a"), s))
		wantExpr(t, bin(s, named("a"), named("b")))
		wantType(t, typeOf(s, s))
	}
}

// P7.2: lists with no elements, one and several.
func TestLists(t *testing.T) {
	for _, text := range []string{
		"f()", "f(1)", "f(1, 2)", "f(a, b, c)", "f()()", "f(g(x), h(), 1)", "f(a && b, c == d)", "f(x)(y)(z)", "a.b()", "a.b().c", "a[0]", "a[b][c]", "a[b[c]]", "a[i + 1]", "a[b && c]", "f()[0].x",
		"new T{}", "new b.T{1}", "new []int{1, 2, 3}", "new [][]b.T{new []b.T{}, x}", "new T{a && b}", "new T{}.f", "new T{}()", "new []int{1}[0]", "1.f", "true()", `"x"[1]`, "a.b.c.d",
	} {
		x, _ := parsed(text)
		wantText(t, text, show.Expr(x), text)
	}
	for n := range 12 {
		wantExpr(t, call(named("f"), usual()[:n]...))
		wantExpr(t, create(typeNamed("T"), usual()[:n]...))
	}
}

// P7.2: brackets in a row of operators, which is read from the left.
func TestBrackets(t *testing.T) {
	for text, want := range map[string]string{
		"a-b-c": "a - b - c", "(a-b)-c": "a - b - c", "a-(b+c)": "a - (b + c)", "a+(b+c)": "a + (b + c)", "a*(b*c)": "a * (b * c)", "(a*b)*c": "a * b * c", "a==(b==c)": "a == (b == c)",
		"(a==b)==c": "a == b == c", "a==b<c": "a == b < c", "a<(b==c)": "a < (b == c)", "a&&(b&&c)": "a && (b && c)", "(a&&b)&&c": "a && b && c", "(a&&b)==c": "(a && b) == c", "a&&(b==c)": "a && b == c",
		"(a<b)+1": "(a < b) + 1", "(a+b)<(c+d)": "a + b < c + d", "(a+b)*(c-d)": "(a + b) * (c - d)", "(a*b)+(c*d)": "a * b + c * d", "a+b*c-d": "a + b * c - d",
		"!a": "!a", "!!a": "!!a", "!(!(a))": "!!a", "(!a)*b": "!a * b", "!(a*b)": "!(a * b)", "a*(!b)": "a * !b", "!a&&!b": "!a && !b", "!(a&&b)": "!(a && b)",
		"(!a)()": "(!a)()", "!a()": "!a()", "!(a())": "!a()", "(!a)[0]": "(!a)[0]", "a[(!b)]": "a[!b]", "!(a.f)": "!a.f",
		"(a+b).f": "(a + b).f", "(a+b)()": "(a + b)()", "(a+b)[0]": "(a + b)[0]", "(a*b).f": "(a * b).f", "(a.f)*b": "a.f * b", "((a))": "a", "(a)+(1)": "a + 1", "f((a),((b)))": "f(a, b)", "(f)(a)": "f(a)", "(new T{}).f": "new T{}.f",
	} {
		x, _ := parsed(text)
		wantText(t, text, show.Expr(x), want)
	}
}

// P7.2: each operator on either side of each other one, and below all else that has parts.
func TestOperators(t *testing.T) {
	all := slices.Concat(operators()...)
	a, b, c, d := named("a"), named("b"), named("c"), named("d")
	for _, o := range all {
		inner := bin(o, a, b)
		wantExpr(t, inner)
		for _, s := range built(inner, c, d) {
			wantExpr(t, s)
		}
		for _, s := range built(c, inner, d) {
			wantExpr(t, s)
		}
		wantExpr(t, bin(o, not(a), not(b)))
		wantExpr(t, not(not(inner)))
		for _, p := range all {
			wantExpr(t, bin(p, inner, bin(o, c, d)))
			for _, q := range all {
				wantExpr(t, bin(q, bin(p, inner, c), d))
				wantExpr(t, bin(q, d, bin(p, inner, c)))
				wantExpr(t, bin(q, bin(p, c, inner), d))
				wantExpr(t, bin(q, d, bin(p, c, inner)))
			}
		}
	}
}

// P7.2: each kind of expression in each place of each other one, such that no parser produces among them.
func TestPlaces(t *testing.T) {
	all := slices.Concat(usual(), oddExprs())
	for i, a := range all {
		wantExpr(t, a)
		for j, b := range all {
			for _, s := range built(a, b, all[(i+j)%len(all)]) {
				wantExpr(t, s)
			}
			for _, o := range others() {
				wantExpr(t, bin(o, a, b))
			}
		}
	}
	for _, x := range slices.Concat(written(), oddTypes()) {
		wantExpr(t, create(x))
		wantExpr(t, create(x, all[3], create(x), all[20]))
	}
}

// P7.2: an operator that is none is of level 1.
func TestOtherOperators(t *testing.T) {
	a, b, c := named("a"), named("b"), named("c")
	for _, o := range others() {
		x := bin(o, a, b).x
		for want, outer := range map[string]api.Expr{
			"a " + o + " b && c": {Kind: 9, Name: "&&", Args: []api.Expr{x, c.x}}, "c && (a " + o + " b)": {Kind: 9, Name: "&&", Args: []api.Expr{c.x, x}},
			"(a " + o + " b) == c": {Kind: 9, Name: "==", Args: []api.Expr{x, c.x}}, "(a " + o + " b) * c": {Kind: 9, Name: "*", Args: []api.Expr{x, c.x}},
			"a " + o + " b / c": {Kind: 9, Name: "/", Args: []api.Expr{x, c.x}}, "c / (a " + o + " b)": {Kind: 9, Name: "/", Args: []api.Expr{c.x, x}},
			"!(a " + o + " b)": {Kind: 10, Args: []api.Expr{x}}, "f(a " + o + " b)": {Kind: 6, Args: []api.Expr{{Kind: 4, Name: "f"}, x}},
			"(a " + o + " b).f": {Kind: 5, Name: "f", Args: []api.Expr{x}},
		} {
			wantText(t, outer, show.Expr(outer), want)
		}
	}
	wantText(t, "of one another", show.Expr(bin("|", bin("&&", a, b), bin("&&", a, b)).x), "a && b | (a && b)")
	wantText(t, "of tight ones", show.Expr(bin("|", bin("==", a, b), bin("==", a, b)).x), "a == b | a == b")
}

// P7.2: `?` for each argument that is missing; it needs no brackets.
func TestMissing(t *testing.T) {
	some := []api.Expr{{Kind: 4, Name: "a"}, {Kind: 4, Name: "b"}, {Kind: 4, Name: "c"}, {Kind: 4, Name: "d"}}
	for _, c := range []struct {
		x    api.Expr
		want []string // with no arguments, one, and so on
	}{
		{api.Expr{Kind: 1, N: 5}, []string{"5", "5", "5", "5", "5"}},
		{api.Expr{Kind: 2, Name: "t"}, []string{`"t"`, `"t"`, `"t"`, `"t"`, `"t"`}},
		{api.Expr{Kind: 3, N: 1}, []string{"true", "true", "true", "true", "true"}},
		{api.Expr{Kind: 4, Name: "x"}, []string{"x", "x", "x", "x", "x"}},
		{api.Expr{Kind: 5, Name: "f"}, []string{"?.f", "a.f", "a.f", "a.f", "a.f"}},
		{api.Expr{Kind: 6}, []string{"?()", "a()", "a(b)", "a(b, c)", "a(b, c, d)"}},
		{api.Expr{Kind: 7}, []string{"?[?]", "a[?]", "a[b]", "a[b]", "a[b]"}},
		{api.Expr{Kind: 8, T: api.TypeX{Kind: 1}}, []string{"new int{}", "new int{a}", "new int{a, b}", "new int{a, b, c}", "new int{a, b, c, d}"}},
		{api.Expr{Kind: 8}, []string{"new ?{}", "new ?{a}", "new ?{a, b}", "new ?{a, b, c}", "new ?{a, b, c, d}"}},
		{api.Expr{Kind: 9, Name: "&&"}, []string{"? && ?", "a && ?", "a && b", "a && b", "a && b"}},
		{api.Expr{Kind: 9, Name: "=="}, []string{"? == ?", "a == ?", "a == b", "a == b", "a == b"}},
		{api.Expr{Kind: 9, Name: "*"}, []string{"? * ?", "a * ?", "a * b", "a * b", "a * b"}},
		{api.Expr{Kind: 9, Name: "/"}, []string{"? / ?", "a / ?", "a / b", "a / b", "a / b"}},
		{api.Expr{Kind: 9}, []string{"?  ?", "a  ?", "a  b", "a  b", "a  b"}},
		{api.Expr{Kind: 10}, []string{"!?", "!a", "!a", "!a", "!a"}},
		{api.Expr{}, []string{"?", "?", "?", "?", "?"}},
	} {
		for n, want := range c.want {
			c.x.Args = some[:n:n]
			wantText(t, c.x, show.Expr(c.x), want)
		}
	}
}

// P7.2: a Kind that is none is `?` and needs no brackets, whatever else it has.
func TestNoKind(t *testing.T) {
	for k := -300; k <= 300; k++ {
		if k >= 1 && k <= 10 {
			continue
		}
		x := leaf(api.Expr{Kind: k, Name: "+", N: 1, Args: []api.Expr{{Kind: 4, Name: "a"}, {Kind: 4, Name: "b"}}}, "?")
		wantExpr(t, x)
		for _, s := range built(x, x, x) {
			wantExpr(t, s)
		}
	}
}

// P7.2: what a kind does not use is not told: neither places, nor other fields.
func TestUnused(t *testing.T) {
	noise := api.Expr{At: -5, End: math.MaxInt, Name: "&&", N: 1, T: api.TypeX{Kind: 1, At: 7}}
	for _, s := range slices.Concat(usual(), oddExprs()) {
		x := s.x
		x.At, x.End, x.T.At = noise.At, noise.End, noise.T.At
		if !slices.Contains([]int{2, 4, 5, 9}, x.Kind) {
			x.Name = noise.Name
		}
		if x.Kind != 1 && x.Kind != 3 {
			x.N = noise.N
		}
		if x.Kind != 8 {
			x.T = noise.T
		}
		if x.Kind < 5 {
			x.Args = []api.Expr{noise, s.x}
		}
		wantText(t, x, show.Expr(x), s.text)
		wantText(t, x, show.Expr(api.Expr{Kind: 10, Args: []api.Expr{x}}), "!"+s.at(5))
	}
}

// bracket are the places of an opening bracket and of the one that closes it.
type bracket struct{ open, end int }

// brackets are those in a row of tokens that hold one expression, not those of a call.
func brackets(l []api.Token) []bracket {
	var found []bracket
	var open []int
	for i, s := range l {
		switch s.Text {
		case "(":
			called := i > 0 && (slices.Contains([]string{")", "]", "}", "true", "false"}, l[i-1].Text) || l[i-1].Kind < api.TSymbol)
			if called {
				open = append(open, -1)
			} else {
				open = append(open, i)
			}
		case ")":
			if at := open[len(open)-1]; at >= 0 {
				found = append(found, bracket{at, i})
			}
			open = open[:len(open)-1]
		}
	}
	return found
}

// wantLeast holds that an expression's text is parsed as the same expression, and without any pair of its brackets not.
func wantLeast(t *testing.T, x api.Expr) {
	t.Helper()
	text := show.Expr(x)
	if again, ok := parsed(text); !ok || !same(&again, &x) {
		t.Fatalf("%q: parsed as %+v; want %+v", text, again, x)
	}
	l := tokens(text)
	for _, b := range brackets(l) {
		less := text[:l[b.open].At] + " " + text[l[b.open].End:l[b.end].At] + " " + text[l[b.end].End:]
		if again, ok := parsed(less); ok && same(&again, &x) {
			t.Fatalf("%q: the same as %q", text, less)
		}
	}
}

// P7.2: brackets stand just where the parser needs them.
func TestLeastBrackets(t *testing.T) {
	all := usual()
	for _, a := range all {
		wantLeast(t, a.x)
		for _, b := range all {
			for _, s := range built(a, b, a) {
				wantLeast(t, s.x)
			}
		}
	}
	r := rule(1)
	for range 5000 {
		wantLeast(t, r.sample(4, usual()).x)
	}
}

// rule is a fixed rule that shuffles.
type rule uint32

func (r *rule) below(n int) int {
	*r = *r*1664525 + 1013904223
	return int(*r>>16) % n
}

// sample is an expression that is so deep at most, with those ones within.
func (r *rule) sample(deep int, leaves []sample) sample {
	if deep == 0 || r.below(5) == 0 {
		return leaves[r.below(len(leaves))]
	}
	l := built(r.sample(deep-1, leaves), r.sample(deep-1, leaves), r.sample(deep-1, leaves))
	return l[r.below(len(l))]
}

// P7.2: expressions of all shapes, such that no parser produces among them, in an order that a fixed rule shuffles.
func TestGrownExprs(t *testing.T) {
	r := rule(2)
	leaves := slices.Concat(usual(), oddExprs())
	for range 5000 {
		wantExpr(t, r.sample(4, leaves))
	}
}

// P7.3: the kinds of statements.
func TestStatements(t *testing.T) {
	for text, want := range map[string]string{
		"{}": "", "{let x=1;}": "let x = 1;\n", "{x=x+1;}": "x = x + 1;\n", "{return;}": "return;\n", "{return a&&b;}": "return a && b;\n", "{f();}": "f();\n", "{(a);}": "a;\n", "{a;b;}": "a;\nb;\n",
		"{if a{}}": "if a {\n}\n", "{if a{b;}}": "if a {\n\tb;\n}\n", "{if a{}else{}}": "if a {\n} else {\n}\n", "{if a{b;}else{c;d;}}": "if a {\n\tb;\n} else {\n\tc;\n\td;\n}\n",
		"{for a{}}": "for a {\n}\n", "{for a<b{a=a+1;return;}}": "for a < b {\n\ta = a + 1;\n\treturn;\n}\n",
		"{for a{if b{for c{d;}}else{e;}}f;}":      "for a {\n\tif b {\n\t\tfor c {\n\t\t\td;\n\t\t}\n\t} else {\n\t\te;\n\t}\n}\nf;\n",
		"{if a{}else{if b{}else{c;}}}":            "if a {\n} else {\n\tif b {\n\t} else {\n\t\tc;\n\t}\n}\n",
		"{if new T{}{return new []T{};}let z=a;}": "if new T{} {\n\treturn new []T{};\n}\nlet z = a;\n",
	} {
		wantText(t, text, show.Block(statements(text), 0), want)
	}
	wantText(t, "none", show.Block(nil, 0), "")
	wantText(t, "none", show.Block([]api.Stmt{}, 50), "")
	for _, x := range slices.Concat(usual(), oddExprs()) {
		for _, s := range shapes(x) {
			wantStatement(t, s)
		}
	}
}

// P7.3: what no parser produces.
func TestOddStatements(t *testing.T) {
	x := api.Expr{Kind: 4, Name: "a"}
	for want, s := range map[string]api.Stmt{
		"?\n": {}, "let  = ?;\n": {Kind: 1}, "let x = ?;\n": {Kind: 1, Name: "x"}, " = ?;\n": {Kind: 2}, "return;\n": {Kind: 3, X: x}, "return ?;\n": {Kind: 3, Has: true}, "?;\n": {Kind: 6},
		"if ? {\n}\n": {Kind: 4}, "if ? {\n} else {\n}\n": {Kind: 4, Has: true}, "if a {\n\t?\n}\n": {Kind: 4, X: x, Body: []api.Stmt{{}}, Else: []api.Stmt{{}}}, "for ? {\n}\n": {Kind: 5, Has: true, Else: []api.Stmt{{}}},
		"let x = a;\n": {Kind: 1, Name: "x", X: x, Has: true, Body: []api.Stmt{{}}, Else: []api.Stmt{{}}}, "x = a;\n": {Kind: 2, Name: "x", X: x, Has: true, Body: []api.Stmt{{}}},
		"return a;\n": {Kind: 3, Name: "x", X: x, Has: true, Body: []api.Stmt{{}}}, "a;\n": {Kind: 6, Name: "x", X: x, Has: true, Body: []api.Stmt{{}}},
	} {
		wantText(t, s, show.Block([]api.Stmt{s}, 0), want)
	}
	for _, s := range oddStatements() {
		wantStatement(t, s)
		for _, o := range []statement{loop(named("a"), s), branch(named("a"), s, s), otherwise(branch(named("a")), s), otherwise(branch(named("a"), s), leave(), s)} {
			wantStatement(t, o)
		}
	}
	for k := -300; k <= 300; k++ {
		if k < 1 || k > 6 {
			wantStatement(t, simple(api.Stmt{Kind: k, Has: true, X: x, Body: []api.Stmt{{Kind: 3}}}, "?"))
		}
	}
}

// P7.3: as many tabs as are asked for: none below 0, and 100 above that, in the blocks within too.
func TestTabs(t *testing.T) {
	l := []api.Stmt{{Kind: 3}, {Kind: 4, X: api.Expr{Kind: 4, Name: "a"}, Body: []api.Stmt{{Kind: 5, X: api.Expr{Kind: 4, Name: "b"}, Body: []api.Stmt{{Kind: 3}}}}, Has: true, Else: []api.Stmt{{}}}}
	for in, tabs := range map[int][4]int{ // those of the block, and of the three within
		math.MinInt: {0, 1, 2}, -1000: {0, 1, 2}, -101: {0, 1, 2}, -100: {0, 1, 2}, -2: {0, 1, 2}, -1: {0, 1, 2}, 0: {0, 1, 2}, 1: {1, 2, 3}, 2: {2, 3, 4}, 50: {50, 51, 52},
		97: {97, 98, 99}, 98: {98, 99, 100}, 99: {99, 100, 100}, 100: {100, 100, 100}, 101: {100, 100, 100}, 102: {100, 100, 100}, 200: {100, 100, 100}, 1 << 31: {100, 100, 100}, 1<<32 - 1: {100, 100, 100},
		math.MaxInt - 1: {100, 100, 100}, math.MaxInt: {100, 100, 100},
	} {
		t0, t1, t2 := strings.Repeat("\t", tabs[0]), strings.Repeat("\t", tabs[1]), strings.Repeat("\t", tabs[2])
		want := t0 + "return;\n" + t0 + "if a {\n" + t1 + "for b {\n" + t2 + "return;\n" + t1 + "}\n" + t0 + "} else {\n" + t1 + "?\n" + t0 + "}\n"
		wantText(t, in, show.Block(l, in), want)
	}
	for in := range 150 {
		for _, s := range shapes(named("a")) {
			wantText(t, s.x, show.Block([]api.Stmt{s.x, s.x}, in), block([]statement{s, s}, in))
		}
	}
}

// statement is one whose blocks are so deep at most, with those leaves within.
func (r *rule) statement(deep int, leaves []sample, simple []statement) statement {
	x := r.sample(2, leaves)
	if deep == 0 || r.below(3) == 0 {
		if i := r.below(len(simple) + 5); i >= 5 {
			return simple[i-5]
		}
		return shapes(x)[r.below(5)]
	}
	switch r.below(3) {
	case 0:
		return loop(x, r.block(deep-1, leaves, simple)...)
	case 1:
		return branch(x, r.block(deep-1, leaves, simple)...)
	}
	return otherwise(branch(x, r.block(deep-1, leaves, simple)...), r.block(deep-1, leaves, simple)...)
}

func (r *rule) block(deep int, leaves []sample, simple []statement) []statement {
	var l []statement
	for range r.below(4) {
		l = append(l, r.statement(deep, leaves, simple))
	}
	return l
}

// P7.3: blocks of all shapes, such that no parser produces among them, in an order that a fixed rule shuffles.
func TestGrownBlocks(t *testing.T) {
	r := rule(3)
	leaves := slices.Concat(usual(), oddExprs())
	for i := range 1000 {
		l := r.block(4, leaves, oddStatements())
		wantText(t, bare(l), show.Block(bare(l), i%110), block(l, i%110))
	}
}

// P7.4: the form of a file, with each kind of declaration.
func TestFile(t *testing.T) {
	for text, want := range map[string]string{
		"package a;":                                                          "package a;\n",
		"package a;import b;":                                                 "package a;\nimport b;\n",
		"package a;import c;import b;":                                        "package a;\nimport c;\nimport b;\n",
		"package a;type T struct{}":                                           "package a;\ntype T struct { }\n",
		"package a;type T struct{x int;}":                                     "package a;\ntype T struct { x int; }\n",
		"package a;type T struct{x int;y[]b.U;}type E struct{}":               "package a;\ntype T struct { x int; y []b.U; }\ntype E struct { }\n",
		"package a;type I interface{}":                                        "package a;\ntype I interface { }\n",
		"package a;type I interface{m();}":                                    "package a;\ntype I interface { m(); }\n",
		"package a;type I interface{m(int)bool;n(a,b.T,[]c)[]text;o()x;p();}": "package a;\ntype I interface { m(int) bool; n(a, b.T, []c) []text; o() x; p(); }\n",
		"package a;func f(){}":                                                "package a;\nfunc f() {\n}\n",
		"package a;func f(x int){}":                                           "package a;\nfunc f(x int) {\n}\n",
		"package a;func f(x int,y []b.T)bool{return x;}":                      "package a;\nfunc f(x int, y []b.T) bool {\n\treturn x;\n}\n",
		"package a;func(t T)m(){}":                                            "package a;\nfunc (t T) m() {\n}\n",
		"package a;func(t[]b.T)m()int{}":                                      "package a;\nfunc (t []b.T) m() int {\n}\n",
		"package a;func g[P I](p P)P{return p;}":                              "package a;\nfunc g[P I](p P) P {\n\treturn p;\n}\n",
		"package a;func(t T)m[P I,Q b.J](){}func f(){if a{b;}}":               "package a;\nfunc (t T) m[P I, Q b.J]() {\n}\nfunc f() {\n\tif a {\n\t\tb;\n\t}\n}\n",
	} {
		f, d := filex.Text(text)
		if d != (api.Diag{}) {
			t.Fatalf("%q: %v", text, d)
		}
		wantText(t, text, show.File(f), want)
	}
}

// P7.4: what no parser produces.
func TestOddFiles(t *testing.T) {
	x := api.TypeX{Kind: 1}
	p := []api.Param{{Name: "x", T: x}}
	body := []api.Stmt{{Kind: 3}}
	wantText(t, "none", show.File(api.File{}), "package ;\n")
	wantText(t, "of nothing", show.File(api.File{Imports: []api.Import{{}, {}}, Decls: []api.Decl{{}, {}}}), "package ;\nimport ;\nimport ;\n?\n?\n")
	for want, d := range map[string]api.Decl{
		"?": {}, "type  struct { }": {Kind: 1}, "type  interface { }": {Kind: 2}, "func () {\n}": {Kind: 3},
		"type T struct {  ?; }":       {Kind: 1, Name: "T", Fields: []api.Param{{}}},
		"type I interface { (); }":    {Kind: 2, Name: "I", Methods: []api.MethodX{{Result: x}}},
		"type I interface { (?) ?; }": {Kind: 2, Name: "I", Methods: []api.MethodX{{Params: []api.TypeX{{}}, Has: true}}},
		"func ( ?) () {\n}":           {Kind: 3, Method: true},
		"func [ ?]( ?,  ?) ? {\n}":    {Kind: 3, Bounds: []api.Param{{}}, Fields: []api.Param{{}, {}}, Has: true},
		"func f() {\n\t?\n}":          {Kind: 3, Name: "f", Recv: p[0], Result: x, Body: []api.Stmt{{}}},
		"func f[x int]() int {\n}":    {Kind: 3, Name: "f", Bounds: p, Has: true, Result: x, Methods: []api.MethodX{{Name: "m"}}},
		"type T struct { x int; }":    {Kind: 1, Name: "T", Method: true, Recv: p[0], Bounds: p, Fields: p, Methods: []api.MethodX{{Name: "m"}}, Has: true, Result: x, Body: body},
		"type I interface { m(); }":   {Kind: 2, Name: "I", Method: true, Recv: p[0], Bounds: p, Fields: p, Methods: []api.MethodX{{Name: "m"}}, Has: true, Result: x, Body: body},
	} {
		wantText(t, d, show.File(api.File{Name: "a", Decls: []api.Decl{d}}), "package a;\n"+want+"\n")
	}
	for k := -300; k <= 300; k++ {
		if k < 1 || k > 3 {
			d := declared{api.Decl{Kind: k, Name: "T", Method: true, Recv: p[0], Bounds: p, Fields: p, Methods: []api.MethodX{{Name: "m"}}, Has: true, Result: x, Body: body}, "?"}
			wantPack(t, "a", nil, d)
			wantPack(t, "a", []string{"b"}, structure("T"), d, d, iface("I"))
		}
	}
}

// some are parameters, with types of all kinds in turn.
func some(n, from int, all []typed) []param {
	var l []param
	for i := range n {
		l = append(l, param{string(rune('p' + i%8)), all[(from+i)%len(all)]})
	}
	return l
}

// decls are declarations of all shapes.
func decls(all []typed) []declared {
	var l []declared
	for i, x := range all {
		for n := range 4 {
			of := some(n, i, all)
			l = append(l, structure("S", of...))
			m := method{name: "m"}
			for _, p := range of {
				m.params = append(m.params, p.of)
			}
			told := m
			told.result = &x
			l = append(l, iface("I", m), iface("I", told), iface("I", []method{m, told, m, told}[:n]...))
			for shape := range 8 {
				f := parts{name: "f", params: of}
				if shape&1 != 0 {
					f.recv = &param{"r", x}
				}
				if shape&2 != 0 {
					f.bounds = some(1+n, i+1, all)
				}
				if shape&4 != 0 {
					f.result = &x
				}
				f.body = shapes(named("a"))[:(i+shape)%8]
				l = append(l, function(f))
			}
		}
	}
	return l
}

// P7.4: no imports and declarations, one and several, with each part and without.
func TestDecls(t *testing.T) {
	all := decls(slices.Concat(written(), oddTypes()))
	for n := range 5 {
		imports := []string{"b", "c", "b", ""}[:n]
		wantPack(t, "a", imports)
		for i, d := range all {
			wantPack(t, "a", imports, d)
			wantPack(t, "", imports, d, all[(i*7+n)%len(all)], d)
		}
	}
	wantPack(t, "a", slices.Repeat([]string{"b", "c"}, 1000), all...)
}

// file is one of all shapes, and its text.
func (r *rule) file(leaves []sample, simple []statement, types []typed) (api.File, string) {
	var l []declared
	all := decls(types[:3])
	for range r.below(5) {
		if r.below(3) == 0 {
			l = append(l, all[r.below(len(all))])
			continue
		}
		f := parts{name: "f", params: some(r.below(3), r.below(20), types), bounds: some(r.below(3), r.below(20), types), body: r.block(3, leaves, simple)}
		if r.below(2) == 0 {
			f.recv = &some(1, r.below(20), types)[0]
		}
		if r.below(2) == 0 {
			f.result = &types[r.below(len(types))]
		}
		l = append(l, function(f))
	}
	return pack("a", []string{"b", "c", "d"}[:r.below(4)], l...)
}

// P7.4: files of all shapes, such that no parser produces among them, in an order that a fixed rule shuffles.
func TestGrownFiles(t *testing.T) {
	r := rule(4)
	leaves, types := slices.Concat(usual(), oddExprs()), slices.Concat(oddTypes(), written())
	for range 300 {
		f, want := r.file(leaves, oddStatements(), types)
		wantText(t, f, show.File(f), want)
	}
}

// wantAgain holds that a text's file, when it is printed, is parsed as the same file, and printed as the same text, which is answered.
func wantAgain(t *testing.T, text string) string {
	t.Helper()
	f, d := filex.Text(text)
	if d != (api.Diag{}) {
		t.Fatalf("%q: %v", text, d)
	}
	printed := show.File(f)
	g, d := filex.Text(printed)
	if d != (api.Diag{}) {
		t.Fatalf("%q: printed %q: %v", text, printed, d)
	}
	wantText(t, text, show.File(g), printed)
	if !same(&f, &g) {
		t.Fatalf("%q:\n%+v; printed and parsed:\n%+v", text, f, g)
	}
	return printed
}

// write is a text with tokens, with a layout ahead of each and behind the last one.
func write(l []api.Token, layout func(i int) string) string {
	var b strings.Builder
	for i, t := range l {
		b.WriteString(layout(i))
		b.WriteString(t.Text)
	}
	b.WriteString(layout(len(l)))
	return b.String()
}

// wantLaidOut holds that a text's layout does not change what is printed.
func wantLaidOut(t *testing.T, text string) {
	t.Helper()
	want := wantAgain(t, text)
	l := tokens(text)
	comments := []string{" ", "\n", "\t//\n", "\r\n", "// } \" package a;\n", "  "}
	for _, layout := range []func(i int) string{
		func(i int) string { return " " },
		func(i int) string { return comments[i%len(comments)] },
		func(i int) string {
			if i == 0 || i == len(l) {
				return ""
			}
			if both, _ := lex.All(l[i-1].Text + l[i].Text); len(both) == 3 && both[0].Text == l[i-1].Text {
				return ""
			}
			return "\t"
		},
	} {
		laid := write(l, layout)
		wantText(t, laid, wantAgain(t, laid), want)
	}
}

// packages are texts of all kinds of packages.
func packages() []string {
	return []string{
		"package a;", "package a;import b;", "package a;import b;import c;import b;", "package _;import _;", "// first\npackage\ta ;\r\n\nimport b; // last",
		"package a;type T struct{}", "package a;type T struct{x int;}", "package a;type T struct{x int;y bool;z text;t T;u b.T;l[]int;m[][]b.T;}type E struct{}",
		"package a;type I interface{}", "package a;type I interface{m();}", "package a;type I interface{m(int,b.T)bool;n();o([][]I)[]I;}",
		"package a;func f(){}", "package a;func f(x int)int{return x+1;}", "package a;func f(x int,y[]b.T,z P)b.U{}", "package a;func(t T)m()int{return t.x;}", "package a;func(t[]T)m(){}",
		"package a;func g[P I](x P){}", "package a;func g[P I,Q b.J,R P](x P,y Q)R{return f(x,y);}", "package a;func(t T)m[P I](p P)P{return t.m(p);}",
		"package a;import b;type T struct{x int;}func(t T)m()int{return t.x;}", "package b;type I interface{m()int;}", "package a;import b;type T struct{}func(t T)m()int{return 1;}func f(i b.I)int{return i.m();}func g()int{return f(new T{});}",
		"package a;func f(){let x=1;x=2;f(x);return;}", "package a;func f(){if a{}else{return 1;}for a<b{}}", "package a;func f(){if a{if b{if c{d;}else{e;}}}else{if f{}else{g;}}}",
		"package a;func f(){for a{for b{for c{}}}}", "package a;func f(){(a);((a));(a).b;(a)(b);(a)[b];(f)();!a;}",
		"package a;func f(){let x=((a+b)*c-(d-e))*!(f==g)&&!(h&&(i&&j))&&(k<l)==(m==n);}", "package a;func f(){return!(!a).b[(c)](((d)),e).g;}", "package a;func f(){new T{new[]b.T{},(1),\"//\",true,false}.x;}",
		`package a;func f(){"";" ";"~!#$%&'()*+,-./:;<=>?@[\]^_{|}";0;9;999999999999999;true;false;}`, "package a;func f(){if new T{}{}for new T{}.x{}if(a){}if(a){}else{}return(a);}",
		"package a;func f(){f(a,b,c)(d)(e)[f][g].h.i;a&&b&&c;a==b<c==d;a+b-c+d;a*b*c;a&&(b&&c);a==(b==c);a+(b+c);a*(b*c);}",
	}
}

// P7.5: packages of all kinds.
func TestParsedAgain(t *testing.T) {
	for _, text := range packages() {
		wantLaidOut(t, text)
	}
	for _, s := range usual() {
		for _, o := range shapes(s) {
			f, want := pack("a", nil, function(parts{name: "f", body: []statement{o, o}}))
			wantText(t, f, wantAgain(t, want), want)
		}
	}
	for _, d := range decls(written()) {
		f, want := pack("a", []string{"b"}, d, d)
		wantText(t, f, wantAgain(t, want), want)
	}
}

// P7.5: packages of all shapes, whose text is printed as it is, with any layout.
func TestGrownAgain(t *testing.T) {
	r := rule(5)
	for range 300 {
		f, text := r.file(usual(), nil, written())
		wantText(t, f, show.File(f), text)
		wantText(t, f, wantAgain(t, text), text)
		wantLaidOut(t, text)
		if g, _ := filex.Text(text); !same(&f, &g) {
			t.Fatalf("%q:\n%+v; want\n%+v", text, g, f)
		}
	}
}

// source is an expression's text, with brackets where none are needed.
func (r *rule) source(deep int) string {
	if deep == 0 {
		return []string{"a", "b", "1", "true", `"t"`, "new T{}", "f()"}[r.below(7)]
	}
	x, y := r.source(deep-1), r.source(r.below(deep))
	return []string{"(" + x + ")", "((" + x + "))", "!" + x, "(" + x + ").f", x + ".f", "(" + x + ")(" + y + ")", x + "(" + y + ",(" + x + "))", x + "[" + y + "]", "new[]T{" + x + ",(" + y + ")}", x + "&&" + y, "(" + x + ")==" + y, x + "<(" + y + ")", x + "+" + y, x + "-(" + y + ")", "(" + x + ")-(" + y + ")", x + "*" + y, "(" + x + ")*(" + y + ")"}[r.below(17)]
}

// P7.5: expressions with brackets where none are needed.
func TestBracketsAgain(t *testing.T) {
	r := rule(6)
	checked := 0
	for range 5000 {
		x := r.source(1 + r.below(6))
		text := "package a;func f(){let x=" + x + ";if " + x + "{}" + x + ";}"
		if _, d := filex.Text(text); d != (api.Diag{}) {
			continue // too deep, or too long
		}
		checked++
		wantAgain(t, text)
		wantText(t, x, wantAgain(t, strings.ReplaceAll(text, x, "("+x+")")), wantAgain(t, text))
		found, _ := parsed(x)
		wantLeast(t, found)
	}
	if checked < 3000 {
		t.Errorf("%d texts", checked)
	}
}

// P7.5: as much as the parsers permit.
func TestMost(t *testing.T) {
	name, digits, text := strings.Repeat("n", 40), strings.Repeat("9", 15), `"`+strings.Repeat("~", 200)+`"`
	in := func(x string) string { return "package a;func f(){" + x + "}" }
	for _, s := range []string{
		"package " + name + ";import " + name + ";type " + name + " struct{" + name + " " + name + "." + name + ";}",
		in("let " + name + "=" + digits + ";" + name + "=" + text + ";"),
		in(strings.Repeat("!", 30) + "a;"), in(strings.Repeat("(", 30) + "a" + strings.Repeat(")", 30) + ";"), in(strings.Repeat("(a-", 30) + "a" + strings.Repeat(")", 30) + ";"), in(strings.Repeat("!(a+", 15) + "a" + strings.Repeat(")", 15) + ";"),
		in("a" + strings.Repeat("(a", 30) + strings.Repeat(")", 30) + ";"), in("a" + strings.Repeat("[a", 30) + strings.Repeat("]", 30) + ";"), in(strings.Repeat("new T{", 30) + strings.Repeat("}", 30) + ";"),
		in("new " + strings.Repeat("[]", 30) + "int{};"), in(strings.Repeat("for a{", 29) + strings.Repeat("}", 29)), in(strings.Repeat("if a{}else{", 29) + strings.Repeat("}", 29)),
		in(strings.Repeat("for a{", 29) + strings.Repeat("(a-", 30) + "a" + strings.Repeat(")", 30) + ";" + strings.Repeat("}", 29)),
		in("a" + strings.Repeat("*a", 1994) + ";"), in("a" + strings.Repeat("(a)", 1329) + ";"), in("a" + strings.Repeat(".a", 1994) + ";"), in("f(a" + strings.Repeat(",a", 1993) + ");"), in(strings.Repeat("a;", 1995)),
		"package a;" + strings.Repeat("import b;", 1332), "package a;func f(" + strings.Repeat("a int,", 1328) + "a int){}",
	} {
		wantLaidOut(t, s)
	}
}

// deep is how many levels lie in one another; the bound permits a few more.
const deep = 1<<16 - 2

// wantDeep is brief, where a text is long.
func wantDeep(t *testing.T, what, text, want string) {
	t.Helper()
	if text != want {
		t.Errorf("%s: %d bytes; want %d", what, len(text), len(want))
	}
}

// nest is what comes of an expression when it is put so many times into another one.
func nest(x api.Expr, around func(x api.Expr) api.Expr) api.Expr {
	for range deep {
		x = around(x)
	}
	return x
}

// P7.1, P7.2: types and expressions as deep as the bound permits.
func TestDeep(t *testing.T) {
	x, lists := typeNamed("T").x, strings.Repeat("[]", deep)
	for range deep {
		x = api.TypeX{Kind: 5, Args: []api.TypeX{x}}
	}
	wantDeep(t, "a list", show.Type(x), lists+"T")
	wantDeep(t, "new", show.Expr(api.Expr{Kind: 8, T: x}), "new "+lists+"T{}")
	wantDeep(t, "a field", show.File(api.File{Decls: []api.Decl{{Kind: 1, Fields: []api.Param{{T: x}}}}}), "package ;\ntype  struct {  "+lists+"T; }\n")
	a := named("a").x
	for _, c := range []struct {
		kind          int
		name          string
		before, after []api.Expr // the arguments ahead of the inner one, and behind it
		open, closing string     // what is told ahead of the inner one, and behind it
	}{
		{10, "", nil, nil, "!", ""}, {5, "f", nil, nil, "", ".f"}, {6, "", nil, nil, "", "()"}, {6, "", nil, []api.Expr{a, a}, "", "(a, a)"}, {6, "", []api.Expr{a, a}, []api.Expr{a}, "a(a, ", ", a)"},
		{7, "", nil, []api.Expr{a}, "", "[a]"}, {7, "", []api.Expr{a}, nil, "a[", "]"}, {8, "", nil, nil, "new ?{", "}"}, {8, "", []api.Expr{a}, []api.Expr{a}, "new ?{a, ", ", a}"},
		{9, "+", nil, []api.Expr{a}, "", " + a"}, {9, "&&", nil, []api.Expr{a}, "", " && a"}, {9, "/", nil, []api.Expr{a}, "", " / a"}, {9, "*", nil, nil, "", " * ?"},
	} {
		x := nest(a, func(x api.Expr) api.Expr {
			return api.Expr{Kind: c.kind, Name: c.name, Args: slices.Concat(c.before, []api.Expr{x}, c.after)}
		})
		wantDeep(t, c.open+c.closing, show.Expr(x), strings.Repeat(c.open, deep)+"a"+strings.Repeat(c.closing, deep))
	}
	for _, o := range []string{"-", "*", "<", "&&", "/"} {
		x := nest(a, func(x api.Expr) api.Expr { return bin(o, named("a"), leaf(x, "")).x })
		wantDeep(t, o, show.Expr(x), strings.Repeat("a "+o+" (", deep-1)+"a "+o+" a"+strings.Repeat(")", deep-1))
	}
	x2 := nest(a, func(x api.Expr) api.Expr { return selected(not(leaf(x, "")), "f").x })
	wantDeep(t, "(!).f", show.Expr(x2), strings.Repeat("(!", deep)+"a"+strings.Repeat(").f", deep))
}

// P7.3, P7.4: blocks as deep as the bound permits.
func TestDeepBlocks(t *testing.T) {
	var l []api.Stmt
	for i := range deep {
		s := api.Stmt{Kind: 5, Body: l}
		if i%2 == 0 {
			s = api.Stmt{Kind: 4, Has: true, Else: l}
		}
		l = []api.Stmt{s}
	}
	told := func(in int) string {
		var b strings.Builder
		for i := range deep {
			b.WriteString(tabs(in + i))
			if i%2 == 0 {
				b.WriteString("for ? {\n")
			} else {
				b.WriteString("if ? {\n" + tabs(in+i) + "} else {\n")
			}
		}
		for i := range deep {
			b.WriteString(tabs(in+deep-1-i) + "}\n")
		}
		return b.String()
	}
	for _, in := range []int{0, 1, 99, 100} {
		wantDeep(t, "a block", show.Block(l, in), told(in))
	}
	wantDeep(t, "a block", show.Block(l, math.MaxInt), told(100))
	wantDeep(t, "a function", show.File(api.File{Decls: []api.Decl{{Kind: 3, Body: l}}}), "package ;\nfunc () {\n"+told(1)+"}\n")
}

// P7.2, P7.3, P7.4: long lists.
func TestLong(t *testing.T) {
	const n = 100000
	a := slices.Repeat([]api.Expr{named("a").x}, n)
	wantDeep(t, "a call", show.Expr(api.Expr{Kind: 6, Args: a}), "a("+strings.Repeat("a, ", n-2)+"a)")
	wantDeep(t, "new", show.Expr(api.Expr{Kind: 8, Args: a}), "new ?{"+strings.Repeat("a, ", n-1)+"a}")
	wantDeep(t, "a block", show.Block(slices.Repeat([]api.Stmt{{Kind: 3}}, n), 100), strings.Repeat(tabs(100)+"return;\n", n))
	p := slices.Repeat([]api.Param{{Name: "x"}}, n)
	f := api.File{Imports: slices.Repeat([]api.Import{{Name: "b"}}, n), Decls: slices.Concat(slices.Repeat([]api.Decl{{}}, n), []api.Decl{{Kind: 3, Bounds: p, Fields: p}})}
	long := strings.Repeat("x ?, ", n-1) + "x ?"
	wantDeep(t, "a file", show.File(f), "package ;\n"+strings.Repeat("import b;\n", n)+strings.Repeat("?\n", n)+"func ["+long+"]("+long+") {\n}\n")
}

// trees are types, expressions, statements and files of all kinds, with what tells their text.
func trees() map[any]func() string {
	all := map[any]func() string{}
	for _, of := range slices.Concat(written(), oddTypes()) {
		all[&of.x] = func() string { return show.Type(of.x) }
	}
	for _, s := range slices.Concat(usual(), oddExprs(), built(usual()[9], oddExprs()[3], not(named("a")))) {
		all[&s.x] = func() string { return show.Expr(s.x) }
		for _, o := range shapes(s) {
			l := []api.Stmt{o.x, o.x}
			all[&l] = func() string { return show.Block(l, 3) }
		}
	}
	r := rule(7)
	for range 50 {
		f, _ := r.file(slices.Concat(usual(), oddExprs()), oddStatements(), slices.Concat(written(), oddTypes()))
		all[&f] = func() string { return show.File(f) }
	}
	return all
}

// walk calls for each list and each text in a value.
func walk(v reflect.Value, list, text func(v reflect.Value)) {
	switch v.Kind() {
	case reflect.String:
		text(v)
	case reflect.Slice:
		list(v)
		for i := range v.Len() {
			walk(v.Index(i), list, text)
		}
	case reflect.Struct:
		for i := range v.NumField() {
			walk(v.Field(i), list, text)
		}
	}
}

// spare gives each list in a value spare capacity, which holds what lies in others.
func spare(v reflect.Value) {
	walk(v, func(l reflect.Value) {
		if l.Len() > 0 {
			more := reflect.AppendSlice(reflect.MakeSlice(l.Type(), 0, 2*l.Len()), l)
			reflect.AppendSlice(more, l)
			l.Set(more)
		}
	}, func(reflect.Value) {})
}

// whole is a list with its spare capacity, within which there are further ones.
func whole(v reflect.Value) any {
	var all []any
	walk(v, func(l reflect.Value) { all = append(all, l.Slice(0, l.Cap()).Interface()) }, func(s reflect.Value) { all = append(all, s.String()) })
	return all
}

// R4, R5: a tree stays as it is, its lists' spare capacity too, and this is not read.
func TestArgument(t *testing.T) {
	for tree, told := range trees() {
		v := reflect.ValueOf(tree).Elem()
		want := told()
		spare(v)
		before := clone(v)
		wantText(t, tree, told(), want)
		if !reflect.DeepEqual(whole(v), whole(before)) {
			t.Fatalf("%+v: changed", tree)
		}
	}
}

// clone is a copy of a value with copies of its lists, with their spare capacity.
func clone(v reflect.Value) reflect.Value {
	c := reflect.New(v.Type()).Elem()
	c.Set(v)
	walk(c, func(l reflect.Value) {
		if l.Len() > 0 {
			more := reflect.MakeSlice(l.Type(), l.Cap(), l.Cap())
			reflect.Copy(more, l.Slice(0, l.Cap()))
			l.Set(more.Slice(0, l.Len()))
		}
	}, func(reflect.Value) {})
	return c
}

// R4: a text is new memory, not that of a text in the tree.
func TestNewMemory(t *testing.T) {
	s := strings.Clone("name")
	for _, text := range []string{
		show.Type(api.TypeX{Kind: 4, Name: s}), show.Type(api.TypeX{Kind: 4, Pkg: s}), show.Expr(api.Expr{Kind: 4, Name: s}), show.Expr(api.Expr{Kind: 2, Name: s}),
		show.Block([]api.Stmt{{Kind: 6, X: api.Expr{Kind: 4, Name: s}}}, 0), show.File(api.File{Name: s}),
	} {
		at, begin := uintptr(unsafe.Pointer(unsafe.StringData(text))), uintptr(unsafe.Pointer(unsafe.StringData(s)))
		if !strings.Contains(text, s) || at < begin+uintptr(len(s)) && begin < at+uintptr(len(text)) {
			t.Errorf("%q is memory of the tree", text)
		}
	}
}

// R5: the same text each time, whatever was asked before, and by however many at a time.
func TestAgain(t *testing.T) {
	all := trees()
	first := map[any]string{}
	for tree, told := range all {
		first[tree] = told()
	}
	for i := range 4 {
		t.Run(strconv.Itoa(i), func(t *testing.T) {
			t.Parallel()
			for tree, told := range all {
				wantText(t, tree, told(), first[tree])
			}
		})
	}
}
