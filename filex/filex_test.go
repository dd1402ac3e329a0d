package filex_test

import (
	"cmp"
	"math"
	"reflect"
	"slices"
	"strings"
	"testing"
	"unsafe"

	"quoin/api"
	"quoin/filex"
	"quoin/lex"
	"quoin/stmtx"
	"quoin/typex"
)

// odd numbers tokens' places as no text does, so that each place tells its token.
func oddAt(i int) int  { return 1000 - 7*i }
func oddEnd(i int) int { return -3 - 5*i }

// tok is a token's kind and text; its place comes from where it stands.
func tok(kind int, text string) api.Token { return api.Token{Kind: kind, Text: text} }

func word(text string) api.Token   { return tok(api.TWord, text) }
func name(text string) api.Token   { return tok(api.TName, text) }
func symbol(text string) api.Token { return tok(api.TSymbol, text) }
func end() []api.Token             { return one(tok(api.TEnd, "")) }

func one(tokens ...api.Token) []api.Token { return tokens }

// list places tokens oddly, the first one as token from.
func listFrom(from int, parts ...[]api.Token) []api.Token {
	l := slices.Concat(parts...)
	for i := range l {
		l[i].At, l[i].End = oddAt(from+i), oddEnd(from+i)
	}
	return l
}

func list(parts ...[]api.Token) []api.Token { return listFrom(0, parts...) }

// source is lex's tokens of a text, without the end.
func source(text string) []api.Token {
	l, d := lex.All(text)
	if d != (api.Diag{}) {
		panic("no tokens: " + text)
	}
	return l[:len(l)-1]
}

// texts are the same without their places.
func texts(text string) []api.Token {
	l := source(text)
	for i := range l {
		l[i].At, l[i].End = 0, 0
	}
	return l
}

// typeAt is what typex, for which its own tests vouch, makes of tokens that begin at token from.
func typeAt(x []api.Token, from int) api.TypeX {
	p, next, d := typex.Parse(listFrom(from, x), 0)
	if next != len(x) || d != (api.Diag{}) {
		panic("no type")
	}
	return p
}

// blockAt is what stmtx makes of tokens that begin at token from.
func blockAt(x []api.Token, from int) []api.Stmt {
	p, next, d := stmtx.Parse(listFrom(from, x), 0)
	if next != len(x) || d != (api.Diag{}) {
		panic("no block")
	}
	return p
}

// draft gathers tokens, and what they stand for if the first one is token from.
type draft struct {
	from   int
	tokens []api.Token
}

func (d *draft) put(text string) { d.tokens = append(d.tokens, texts(text)...) }

func (d *draft) last() int { return oddEnd(d.from + len(d.tokens) - 1) }

func (d *draft) name(text string) (string, int) {
	d.tokens = append(d.tokens, name(text))
	return text, oddAt(d.from + len(d.tokens) - 1)
}

func (d *draft) typed(x []api.Token) api.TypeX {
	from := d.from + len(d.tokens)
	d.tokens = append(d.tokens, x...)
	return typeAt(x, from)
}

// param is a name and the tokens of a type.
type param struct {
	name string
	of   []api.Token
}

func (d *draft) param(x param) api.Param {
	var p api.Param
	p.Name, p.At = d.name(x.name)
	p.T = d.typed(x.of)
	return p
}

// params puts some of them, with a text between each two.
func (d *draft) params(between string, l []param) []api.Param {
	var found []api.Param
	for i, x := range l {
		if i > 0 {
			d.put(between)
		}
		found = append(found, d.param(x))
	}
	return found
}

// sample puts a declaration behind what was put before, and tells it.
type sample func(d *draft) api.Decl

func structure(text string, fields ...param) sample {
	return func(d *draft) api.Decl {
		x := api.Decl{Kind: 1}
		d.put("type")
		x.Name, x.At = d.name(text)
		d.put("struct{")
		for _, f := range fields {
			x.Fields = append(x.Fields, d.param(f))
			d.put(";")
		}
		d.put("}")
		x.End = d.last()
		return x
	}
}

// method is one of an interface; without a result, that is nil.
type method struct {
	name   string
	result []api.Token
	params [][]api.Token
}

func iface(text string, methods ...method) sample {
	return func(d *draft) api.Decl {
		x := api.Decl{Kind: 2}
		d.put("type")
		x.Name, x.At = d.name(text)
		d.put("interface{")
		for _, of := range methods {
			var m api.MethodX
			m.Name, m.At = d.name(of.name)
			d.put("(")
			for i, p := range of.params {
				if i > 0 {
					d.put(",")
				}
				m.Params = append(m.Params, d.typed(p))
			}
			d.put(")")
			if of.result != nil {
				m.Has, m.Result = true, d.typed(of.result)
			}
			d.put(";")
			x.Methods = append(x.Methods, m)
		}
		d.put("}")
		x.End = d.last()
		return x
	}
}

// parts are those of a function; without a receiver, bounds or a result, these are nil.
type parts struct {
	recv           *param
	name           string
	bounds, params []param
	result, body   []api.Token
}

func function(of parts) sample {
	return func(d *draft) api.Decl {
		x := api.Decl{Kind: 3}
		d.put("func")
		if of.recv != nil {
			d.put("(")
			x.Method, x.Recv = true, d.param(*of.recv)
			d.put(")")
		}
		x.Name, x.At = d.name(of.name)
		if of.bounds != nil {
			d.put("[")
			x.Bounds = d.params(",", of.bounds)
			d.put("]")
		}
		d.put("(")
		x.Fields = d.params(",", of.params)
		d.put(")")
		if of.result != nil {
			x.Has, x.Result = true, d.typed(of.result)
		}
		x.Body = blockAt(of.body, d.from+len(d.tokens))
		d.tokens = append(d.tokens, of.body...)
		x.End = d.last()
		return x
	}
}

// pack is a package's tokens without the end, and its file.
func pack(text string, imports []string, decls ...sample) ([]api.Token, api.File) {
	var d draft
	var f api.File
	d.put("package")
	f.Name, f.At = d.name(text)
	d.put(";")
	for _, i := range imports {
		d.put("import")
		n, at := d.name(i)
		d.put(";")
		f.Imports = append(f.Imports, api.Import{Name: n, At: at})
	}
	for _, of := range decls {
		f.Decls = append(f.Decls, of(&d))
	}
	return d.tokens, f
}

func sameType(a, b api.TypeX) bool {
	return a.Kind == b.Kind && a.At == b.At && a.Pkg == b.Pkg && a.Name == b.Name && slices.EqualFunc(a.Args, b.Args, sameType)
}

func sameExpr(a, b api.Expr) bool {
	return a.Kind == b.Kind && a.At == b.At && a.End == b.End && a.Name == b.Name && a.N == b.N && sameType(a.T, b.T) && slices.EqualFunc(a.Args, b.Args, sameExpr)
}

func sameStmt(a, b api.Stmt) bool {
	return a.Kind == b.Kind && a.At == b.At && a.Name == b.Name && a.Has == b.Has && sameExpr(a.X, b.X) && slices.EqualFunc(a.Body, b.Body, sameStmt) && slices.EqualFunc(a.Else, b.Else, sameStmt)
}

func sameParam(a, b api.Param) bool {
	return a.Name == b.Name && a.At == b.At && sameType(a.T, b.T)
}

func sameMethod(a, b api.MethodX) bool {
	return a.Name == b.Name && a.At == b.At && slices.EqualFunc(a.Params, b.Params, sameType) && a.Has == b.Has && sameType(a.Result, b.Result)
}

func sameDecl(a, b api.Decl) bool {
	return a.Kind == b.Kind && a.At == b.At && a.End == b.End && a.Name == b.Name && a.Method == b.Method && sameParam(a.Recv, b.Recv) &&
		slices.EqualFunc(a.Bounds, b.Bounds, sameParam) && slices.EqualFunc(a.Fields, b.Fields, sameParam) && slices.EqualFunc(a.Methods, b.Methods, sameMethod) &&
		a.Has == b.Has && sameType(a.Result, b.Result) && slices.EqualFunc(a.Body, b.Body, sameStmt)
}

// same tells whether two files are, where an empty list is as good as none.
func same(a, b api.File) bool {
	return a.Name == b.Name && a.At == b.At && slices.Equal(a.Imports, b.Imports) && slices.EqualFunc(a.Decls, b.Decls, sameDecl)
}

func wantFile(t *testing.T, l []api.Token, want api.File) {
	t.Helper()
	f, d := filex.Parse(l)
	if !same(f, want) || d != (api.Diag{}) {
		t.Fatalf("Parse(%v):\n%+v, %v; want\n%+v", l, f, d, want)
	}
}

func wantWrong(t *testing.T, l []api.Token, place, code int) {
	t.Helper()
	f, d := filex.Parse(l)
	if !same(f, api.File{}) || d != (api.Diag{At: place, Code: code}) {
		t.Fatalf("Parse(%v):\n%+v, %v; want error %d at %d", l, f, d, code, place)
	}
}

// wantPack holds Parse against a package, with an end and without, and before other tokens.
func wantPack(t *testing.T, text string, imports []string, decls ...sample) {
	t.Helper()
	l, f := pack(text, imports, decls...)
	wantFile(t, list(l), f)
	for _, behind := range [][]api.Token{nil, end(), texts("x"), texts("import b;"), texts("}}{("), l} {
		wantFile(t, list(l, end(), behind), f)
	}
}

// wantFault holds that tokens have an error at the one with this index.
func wantFault(t *testing.T, l []api.Token, wrong, code int) {
	t.Helper()
	l = list(l)
	place := 0
	switch {
	case wrong < len(l):
		place = oddAt(wrong)
	case len(l) > 0:
		place = oddEnd(len(l) - 1)
	}
	wantWrong(t, l, place, code)
}

func wantText(t *testing.T, text string, want api.File) {
	t.Helper()
	if f, d := filex.Text(text); !same(f, want) || d != (api.Diag{}) {
		t.Fatalf("Text(%q):\n%+v, %v; want\n%+v", text, f, d, want)
	}
}

func wantNoText(t *testing.T, text string, at, code int) {
	t.Helper()
	if f, d := filex.Text(text); !same(f, api.File{}) || d != (api.Diag{At: at, Code: code}) {
		t.Fatalf("Text(%q):\n%+v, %v; want error %d at %d", text, f, d, code, at)
	}
}

func TestExamples(t *testing.T) {
	own := api.TypeX{Kind: api.XName, At: 48, Name: "T"}
	sel := api.Expr{Kind: api.ESel, At: 63, End: 66, Name: "x", Args: []api.Expr{{Kind: api.EName, At: 63, End: 64, Name: "t"}}}
	wantText(t, "package a;import b;type T struct{x int;}func(t T)m()int{return t.x;}", api.File{Name: "a", At: 8, Imports: []api.Import{{Name: "b", At: 17}}, Decls: []api.Decl{
		{Kind: 1, At: 24, End: 40, Name: "T", Fields: []api.Param{{Name: "x", At: 33, T: api.TypeX{Kind: api.XInt, At: 35}}}},
		{Kind: 3, At: 49, End: 68, Name: "m", Method: true, Recv: api.Param{Name: "t", At: 45, T: api.TypeX{Kind: own.Kind, At: 47, Name: "T"}}, Has: true, Result: api.TypeX{Kind: api.XInt, At: 52}, Body: []api.Stmt{{Kind: api.SReturn, At: 56, Has: true, X: sel}}},
	}})
	wantText(t, "package a;func g[P I](x P){}", api.File{Name: "a", At: 8, Decls: []api.Decl{
		{Kind: 3, At: 15, End: 28, Name: "g", Bounds: []api.Param{{Name: "P", At: 17, T: api.TypeX{Kind: api.XName, At: 19, Name: "I"}}}, Fields: []api.Param{{Name: "x", At: 22, T: api.TypeX{Kind: api.XName, At: 24, Name: "P"}}}},
	}})
	wantText(t, "package a;type I interface{m(int,b.T)bool;n();}", api.File{Name: "a", At: 8, Decls: []api.Decl{
		{Kind: 2, At: 15, End: 47, Name: "I", Methods: []api.MethodX{
			{Name: "m", At: 27, Params: []api.TypeX{{Kind: api.XInt, At: 29}, {Kind: api.XName, At: 33, Pkg: "b", Name: "T"}}, Has: true, Result: api.TypeX{Kind: api.XBool, At: 37}},
			{Name: "n", At: 42},
		}},
	}})
	wantNoText(t, "package;", 7, api.DSyntax)
	wantNoText(t, "", 0, api.DSyntax)
	wantNoText(t, "package a;x", 10, api.DSyntax)
}

// The numbers of kinds, codes and limits, as the chapters list them.
func TestNumbers(t *testing.T) {
	if !slices.Equal([]int{api.DeclStruct, api.DeclIface, api.DeclFunc}, []int{1, 2, 3}) {
		t.Error("kinds")
	}
	if !slices.Equal([]int{api.DByte, api.DNumber, api.DText, api.DLong, api.DSyntax, api.DDeep}, []int{1, 2, 3, 4, 5, 6}) || api.MaxDeep != 30 || api.MaxTokens != 4000 {
		t.Error("codes, limits")
	}
}

// P6.1: offsets of texts, by hand: a declaration's At is its name's, its End that of its last bracket.
func TestOffsets(t *testing.T) {
	in := func(decls ...api.Decl) api.File { return api.File{Name: "ab", At: 8, Decls: decls} }
	named := func(text string, at int) api.TypeX { return api.TypeX{Kind: api.XName, At: at, Name: text} }
	for text, want := range map[string]api.File{
		"package ab;":                          in(),
		"package ab;\n// done":                 in(),
		"package\tab\n;// import c;":           in(),
		"package ab;import cd ; import  e;":    {Name: "ab", At: 8, Imports: []api.Import{{Name: "cd", At: 18}, {Name: "e", At: 31}}},
		"package ab; type TT struct { } ":      in(api.Decl{Kind: 1, At: 17, End: 30, Name: "TT"}),
		"package ab;type I interface{}":        in(api.Decl{Kind: 2, At: 16, End: 29, Name: "I"}),
		"package ab;func f ( ) { } // } ":      in(api.Decl{Kind: 3, At: 16, End: 25, Name: "f"}),
		"package ab;func f(){if a{}}":          in(api.Decl{Kind: 3, At: 16, End: 27, Name: "f", Body: []api.Stmt{{Kind: api.SIf, At: 20, X: api.Expr{Kind: api.EName, At: 23, End: 24, Name: "a"}}}}),
		"package ab;func (tt T) mm () { }":     in(api.Decl{Kind: 3, At: 23, End: 32, Name: "mm", Method: true, Recv: api.Param{Name: "tt", At: 17, T: named("T", 20)}}),
		"package ab;func f[P I,Q J]()P{}":      in(api.Decl{Kind: 3, At: 16, End: 31, Name: "f", Bounds: []api.Param{{Name: "P", At: 18, T: named("I", 20)}, {Name: "Q", At: 22, T: named("J", 24)}}, Has: true, Result: named("P", 28)}),
		"package ab;func f(x []T,y c.T){}":     in(api.Decl{Kind: 3, At: 16, End: 32, Name: "f", Fields: []api.Param{{Name: "x", At: 18, T: api.TypeX{Kind: api.XList, At: 20, Args: []api.TypeX{named("T", 22)}}}, {Name: "y", At: 24, T: api.TypeX{Kind: api.XName, At: 26, Pkg: "c", Name: "T"}}}}),
		"package ab;type T struct{x P;y Q;}":   in(api.Decl{Kind: 1, At: 16, End: 34, Name: "T", Fields: []api.Param{{Name: "x", At: 25, T: named("P", 27)}, {Name: "y", At: 29, T: named("Q", 31)}}}),
		"package ab;type I interface{m(P)Q;n(": {},
		"package ab;type I interface{m(P)Q;} ": in(api.Decl{Kind: 2, At: 16, End: 35, Name: "I", Methods: []api.MethodX{{Name: "m", At: 28, Params: []api.TypeX{named("P", 30)}, Has: true, Result: named("Q", 32)}}}),
	} {
		if want.Name == "" {
			wantNoText(t, text, len(text), api.DSyntax)
			continue
		}
		wantText(t, text, want)
		wantFile(t, source(text), want)
	}
}

// types are tokens of types of all kinds.
func types() [][]api.Token {
	return [][]api.Token{
		texts("int"), texts("bool"), texts("text"), texts("T"), texts("b.T"), texts("[]int"), texts("[][]b.T"), texts("[]T"),
		slices.Concat(slices.Repeat(texts("[]"), 30), texts("b.T")), one(name("int")), one(name("{"), symbol("."), name("")),
	}
}

// bodies are tokens of blocks with statements of all kinds.
func bodies() [][]api.Token {
	deep := slices.Concat(texts("{"), slices.Repeat(texts("for a{"), 29), slices.Repeat(texts("}"), 30))
	return [][]api.Token{
		texts("{}"), texts("{return;}"), texts("{return x;}"), texts("{let x=1;}"), texts("{x=2;}"), texts("{if a{}}"), texts("{if a{return;}else{f();}}"), texts("{for a<b{a=a+1;}}"), texts("{f(x,y)[1].z;}"),
		texts(`{let x=new []b.T{1,true,"}"};x=x;if !x{x;}else{for x{}}for x{if y{}}return (x)==y;}`), deep, one(symbol("{"), name("}"), symbol(";"), symbol("}")),
	}
}

// params are some, with types of all kinds in turn.
func params(n, from int) []param {
	var l []param
	all := types()
	for i := range n {
		l = append(l, param{string(rune('p' + i%8)), all[(from+i)%len(all)]})
	}
	return l
}

// structs, ifaces and functions are declarations of all shapes.
func structs() []sample {
	var l []sample
	for n := range 4 {
		l = append(l, structure("S", params(n, n)...))
	}
	for _, x := range types() {
		l = append(l, structure("S", param{"f", x}), structure("S", param{"f", x}, param{"f", x}))
	}
	return l
}

func ifaces() []sample {
	l := []sample{iface("I")}
	all := types()
	var some []method
	for i, result := range append(all, nil) {
		m := method{"m", result, nil}
		for n := range 4 {
			m.params = append(m.params, all[(i+n)%len(all)])
			short := method{"n", result, m.params[:n]}
			l = append(l, iface("I", short), iface("I", short, m, short), iface("I", m, method{"o", nil, m.params}, short))
			some = append(some, short)
		}
	}
	return append(l, iface("I", some...))
}

func functions() []sample {
	var l []sample
	all, blocks := types(), bodies()
	for i := range 128 {
		of := parts{name: "f", params: params(i/8%4, i), body: blocks[i%len(blocks)]}
		if i%2 == 1 {
			of.recv = &param{"r", all[i/2%len(all)]}
		}
		if i/2%2 == 1 {
			of.result = all[i/4%len(all)]
		}
		if i/4%2 == 1 {
			of.bounds = params(1+i/32, i+1)
		}
		l = append(l, function(of))
	}
	for _, x := range all {
		p := param{"x", x}
		l = append(l, function(parts{recv: &p, name: "f", bounds: []param{p, p}, params: []param{p, p, p}, result: x, body: texts("{}")}))
	}
	for _, b := range blocks {
		l = append(l, function(parts{name: "f", body: b}), function(parts{recv: &param{"x", all[0]}, name: "f", result: all[3], body: b}))
	}
	return l
}

// P6.1: a package without imports and declarations, and with one and several of each.
func TestKinds(t *testing.T) {
	some := slices.Concat(structs()[:6], ifaces()[:8], functions()[:12])
	for n := range 5 {
		imports := []string{"b", "c", "b", "a"}[:n]
		wantPack(t, "a", imports)
		for i, s := range slices.Concat(structs(), ifaces(), functions()) {
			wantPack(t, "a", imports, s)
			wantPack(t, "a", imports, s, some[i%len(some)], s)
		}
	}
	for _, s := range some {
		for _, o := range some {
			wantPack(t, "a", nil, s, o)
			wantPack(t, "b", []string{"a"}, o, o, s, o)
		}
	}
	wantPack(t, "a", []string{"b"}, slices.Concat(functions(), structs(), ifaces(), structs(), functions())...)
	wantPack(t, "a", slices.Repeat([]string{"b", "c"}, 3000), slices.Repeat(some, 100)...)
}

// P6.1: a TName may have any text, that of a word or symbol too, or none.
func TestNames(t *testing.T) {
	x := texts("int")
	for _, text := range []string{"x", "_1", "package", "import", "type", "func", "struct", "int", "", "(", ")", "[", "]", "{", "}", ",", ";", ".", "\x00\xff", strings.Repeat("n", 500)} {
		p, own := param{text, x}, param{text, one(name(text))}
		wantPack(t, text, nil)
		wantPack(t, text, []string{text, text})
		wantPack(t, "a", []string{text}, structure(text), iface(text), function(parts{name: text, body: texts("{}")}))
		wantPack(t, "a", nil, structure("T", p, own, p), iface("I", method{text, nil, nil}, method{text, own.of, [][]api.Token{own.of, x, own.of}}))
		wantPack(t, "a", nil, function(parts{&p, text, []param{p, own}, []param{p, own}, x, texts("{}")}), function(parts{&own, text, []param{own}, []param{own, p}, own.of, texts("{}")}))
	}
}

// P6.1: where there is no token, there is an end, at the last one's End; any TEnd is one.
func TestEnd(t *testing.T) {
	wantWrong(t, nil, 0, api.DSyntax)
	wantWrong(t, []api.Token{}, 0, api.DSyntax)
	wantWrong(t, list(texts("package a;"))[:0], 0, api.DSyntax)
	wantFault(t, end(), 0, api.DSyntax)
	for _, s := range []sample{structure("T", params(2, 0)...), ifaces()[7], functions()[127]} {
		whole, _ := pack("a", []string{"b"}, s)
		_, f := pack("a", []string{"b"}, s)
		for _, last := range []int{0, 1, 77, -5, math.MaxInt, math.MinInt} {
			for n := 1; n < len(whole); n++ {
				l := list(whole[:n])
				l[n-1].End = last
				if n != 3 && n != 6 {
					wantWrong(t, l, last, api.DSyntax)
				}
			}
			l := list(whole, end())
			l[len(l)-1].At, l[len(l)-1].End = last, last
			wantFile(t, l, f)
		}
		for i := range whole {
			for _, stop := range []api.Token{tok(api.TEnd, ""), tok(api.TEnd, whole[i].Text)} {
				l := slices.Insert(slices.Clone(whole), i, stop)
				if i != 3 && i != 6 {
					wantFault(t, l, i, api.DSyntax)
					wantFault(t, append(l[:i+1:i+1], whole[i+1:]...), i, api.DSyntax)
				}
			}
		}
		for _, stop := range []api.Token{tok(api.TEnd, "x"), tok(api.TEnd, ";"), tok(api.TEnd, "type")} {
			wantFile(t, list(whole, one(stop), whole), f)
		}
	}
	_, bare := pack("a", nil)
	_, importing := pack("a", []string{"b"})
	for _, behind := range all() {
		wantFile(t, list(texts("package a;"), end(), one(behind)), bare)
		wantFile(t, list(texts("package a;import b;"), end(), one(behind, behind)), importing)
	}
}

// around are packages' texts behind which a declaration may begin.
func around() []string {
	return []string{
		"package a;",
		"package a;import b;",
		"package a;import b;import c;import b;",
		"package a;type T struct{}",
		"package a;type T struct{x int;y []b.T;}type U struct{}",
		"package a;import b;type I interface{}",
		"package a;type I interface{m();n(int,b.T)bool;}",
		"package a;func f(){}",
		"package a;func(t T)m[P I](x P)[]P{return x;}",
		"package a;import b;func f(){if a{}else{return;}}type T struct{x int;}func(t T)m(){}",
	}
}

// strangers are tokens that may stand nowhere.
func strangers() []api.Token {
	l := []api.Token{
		word(""), word("a"), word("Package"), word("package "), word("typ"), word("funcs"), word("("), word(")"), word("["), word("]"), word("{"), word("}"), word(","), word(";"), word("1"),
		symbol(""), symbol("a"), symbol("package"), symbol("import"), symbol("type"), symbol("struct"), symbol("interface"), symbol("func"), symbol("int"), symbol("()"), symbol("{}"), symbol("[]"), symbol("; "), symbol(",,"), symbol(";;"), symbol("&"),
		tok(-1, "a"), tok(6, "a"), tok(6, "package"), tok(6, "{"), tok(7, "}"), tok(99, ";"), tok(math.MinInt, "type"), tok(7, "func"), tok(math.MaxInt, ","),
		tok(api.TNumber, "1"), tok(api.TNumber, ""), tok(api.TNumber, "a"), tok(api.TNumber, ";"), tok(api.TText, `"a"`), tok(api.TText, "a"), tok(api.TText, "{"),
	}
	for _, s := range strings.Fields("let if else for return new true false") {
		l = append(l, word(s))
	}
	return append(l, texts("= < + - * ! == &&")...)
}

// own are the words and symbols that may stand somewhere, and names, and ends.
func own() []api.Token {
	l := texts("package import type struct interface func int bool text { } ( ) [ ] , ; . a")
	return append(l, name(";"), name("}"), name("import"), name("int"), name(""), tok(api.TEnd, ""), tok(api.TEnd, "a"), tok(api.TEnd, ";"), tok(api.TEnd, "type"))
}

func all() []api.Token { return append(strangers(), own()...) }

// but are all tokens but those of some words and symbols, of names if `a` is among these, and ends if `end` is.
func but(some string) []api.Token {
	except := strings.Fields(some)
	names, ends := slices.Contains(except, "a"), slices.Contains(except, "end")
	return slices.DeleteFunc(all(), func(t api.Token) bool {
		switch t.Kind {
		case api.TName:
			return names
		case api.TEnd:
			return ends
		case api.TWord:
			return slices.Contains(except, t.Text) && lex.Word(t.Text)
		case api.TSymbol:
			return slices.Contains(except, t.Text) && !lex.Word(t.Text) && t.Text != "a"
		}
		return false
	})
}

// noType are tokens with which no type begins, but for some.
func noType(some string) []api.Token { return but("a int bool text [ " + some) }

// wantMisplaced holds that each of these tokens may not stand behind others, whatever follows it; nor may the tokens end there, if no end may stand there.
func wantMisplaced(t *testing.T, before []api.Token, wrong []api.Token) {
	t.Helper()
	for _, s := range wrong {
		for _, behind := range [][]api.Token{nil, texts(";"), texts("}"), texts("a;"), texts("(){}"), texts("int{}"), one(tok(api.TNumber, "x")), end()} {
			wantFault(t, slices.Concat(before, one(s), behind), len(before), api.DSyntax)
		}
		if s.Kind == api.TEnd {
			wantFault(t, before, len(before), api.DSyntax)
		}
	}
}

// P6.2: what may not stand ahead of the declarations, and between them.
func TestNoHead(t *testing.T) {
	wantMisplaced(t, nil, but("package"))
	wantMisplaced(t, texts("package"), but("a"))
	wantMisplaced(t, texts("package a"), but(";"))
	for _, before := range around() {
		if strings.HasSuffix(before, ";") {
			wantMisplaced(t, texts(before), but("import type func end"))
			wantMisplaced(t, texts(before+"import"), but("a"))
			wantMisplaced(t, texts(before+"import b"), but(";"))
		} else {
			// An import behind a declaration is among these.
			wantMisplaced(t, texts(before), but("type func end"))
		}
	}
}

// places are texts ahead of a place within a declaration, and the tokens that are wrong there.
func places() map[string][]api.Token {
	return map[string][]api.Token{
		"type":                             but("a"),
		"type T":                           but("struct interface"),
		"type T struct":                    but("{"),
		"type T struct{":                   but("a }"),
		"type T struct{x":                  noType(""),
		"type T struct{x int":              but(";"),
		"type T struct{x b":                but("; ."),
		"type T struct{x []b.T":            but(";"),
		"type T struct{x int;":             but("a }"),
		"type T struct{x int;y":            noType(""),
		"type T struct{x int;y bool":       but(";"),
		"type T struct{x int;y bool;":      but("a }"),
		"type I interface":                 but("{"),
		"type I interface{":                but("a }"),
		"type I interface{m":               but("("),
		"type I interface{m(":              noType(")"),
		"type I interface{m(int":           but(", )"),
		"type I interface{m(b":             but(", ) ."),
		"type I interface{m([]b.T":         but(", )"),
		"type I interface{m(int,":          noType(""),
		"type I interface{m(int,bool":      but(", )"),
		"type I interface{m(int,bool,":     noType(""),
		"type I interface{m(int,bool,text": but(", )"),
		"type I interface{m()":             noType(";"),
		"type I interface{m(int,b.T)":      noType(";"),
		"type I interface{m()int":          but(";"),
		"type I interface{m()b":            but("; ."),
		"type I interface{m(int)b.T":       but(";"),
		"type I interface{m()int;":         but("a }"),
		"type I interface{m();":            but("a }"),
		"type I interface{m();n":           but("("),
		"type I interface{m();n(":          noType(")"),
		"type I interface{m();n()":         noType(";"),
		"func":                             but("( a"),
		"func(":                            but("a"),
		"func(t":                           noType(""),
		"func(t T":                         but(") ."),
		"func(t []b.T":                     but(")"),
		"func(t T)":                        but("a"),
		"func(t T)m":                       but("[ ("),
		"func f":                           but("[ ("),
		"func f[":                          but("a"),
		"func f[P":                         noType(""),
		"func f[P I":                       but(", ] ."),
		"func f[P b.I":                     but(", ]"),
		"func f[P I,":                      but("a"),
		"func f[P I,Q":                     noType(""),
		"func f[P I,Q []b.J":               but(", ]"),
		"func f[P I]":                      but("("),
		"func(t T)m[P I,Q J]":              but("("),
		"func f(":                          but(") a"),
		"func f[P I](":                     but(") a"),
		"func(t T)m(":                      but(") a"),
		"func f(x":                         noType(""),
		"func f(x int":                     but(", )"),
		"func f(x b":                       but(", ) ."),
		"func f(x b.T":                     but(", )"),
		"func f(x int,":                    but("a"),
		"func f(x int,y":                   noType(""),
		"func f(x int,y []b":               but(", ) ."),
		"func f(x int,y int,":              but("a"),
		"func f()":                         noType("{"),
		"func f(x int)":                    noType("{"),
		"func(t T)m[P I](x P)":             noType("{"),
		"func f()int":                      but("{"),
		"func f()b":                        but("{ ."),
		"func f(x int,y int)[]b.T":         but("{"),
		"func(t T)m[P I](x P)P":            but("{ ."),
	}
}

// P6.2: what may not stand within a declaration, in place of each word, name, bracket, `,`, `;`, type and block, and the end of the tokens there.
func TestWithin(t *testing.T) {
	for text, wrong := range places() {
		for _, before := range around() {
			wantMisplaced(t, texts(before+" "+text), wrong)
		}
	}
}

// P6.2: lists with a `,` too many or too few, or with nothing in brackets that may not be empty, or with what belongs to another list.
func TestLists(t *testing.T) {
	for text, wrong := range map[string]int{
		"func f[](){}":                  3,
		"func f[,](){}":                 3,
		"func f[,P I](){}":              3,
		"func f[P I,](){}":              6,
		"func f[P I,,Q J](){}":          6,
		"func f[P I Q J](){}":           5,
		"func f[P,Q I](){}":             4,
		"func f[P I;Q J](){}":           5,
		"func f[P I)(){}":               5,
		"func f[P I(){}":                5,
		"func f[P I][Q J](){}":          6,
		"func f()[P I]{}":               5,
		"func f(,){}":                   3,
		"func f(,x int){}":              3,
		"func f(x int,){}":              6,
		"func f(x int,,y int){}":        6,
		"func f(x int y int){}":         5,
		"func f(x,y int){}":             4,
		"func f(x){}":                   4,
		"func f(int){}":                 3,
		"func f(x int;){}":              5,
		"func f(x int]{}":               5,
		"func f{}":                      2,
		"func f(){};":                   6,
		"func f(){}{}":                  6,
		"func f()int bool{}":            5,
		"func f()int,bool{}":            5,
		"func f()(int){}":               4,
		"func f();":                     4,
		"func()m(){}":                   2,
		"func(T)m(){}":                  3,
		"func(t T,u U)m(){}":            4,
		"func(t T,)m(){}":               4,
		"func(t T)(u U)m(){}":           5,
		"func(t T)[P I]m(){}":           5,
		"func[P I](t T)m(){}":           1,
		"type T struct{x int}":          6,
		"type T struct{x int,}":         6,
		"type T struct{;}":              4,
		"type T struct{x int;;}":        7,
		"type T struct{x,y int;}":       5,
		"type T struct{x;}":             5,
		"type T struct{x();}":           5,
		"type T struct{x int bool;}":    6,
		"type T struct{};":              5,
		"type T struct();":              3,
		"type I interface{m()}":         7,
		"type I interface{m(),n();}":    7,
		"type I interface{;}":           4,
		"type I interface{m();;}":       8,
		"type I interface{m;}":          5,
		"type I interface{m int;}":      5,
		"type I interface{m(,);}":       6,
		"type I interface{m(,int);}":    6,
		"type I interface{m(int,);}":    8,
		"type I interface{m(int,,a);}":  8,
		"type I interface{m(int a);}":   7,
		"type I interface{m(x int);}":   7,
		"type I interface{m(int;);}":    7,
		"type I interface{m()();}":      7,
		"type I interface{m()int a;}":   8,
		"type I interface{m()int{}}":    8,
		"type I interface{m(){}}":       7,
		"type I interface{func m();}":   4,
		"type I interface{m[P I]();}":   5,
		"type I interface{(t T)m();}":   4,
		"type I interface{m()}type T":   7,
		"type T int;":                   2,
		"type T T;":                     2,
		"type struct T{}":               1,
		"type T[P I]struct{}":           2,
		"type T struct{type U struct{}": 4,
		"import b;type T struct{}":      0,
	} {
		for _, before := range around() {
			wrong := wrong
			if text == "import b;type T struct{}" && strings.HasSuffix(before, ";") {
				continue
			}
			ahead := texts(before)
			wantFault(t, slices.Concat(ahead, texts(text)), len(ahead)+wrong, api.DSyntax)
			wantFault(t, slices.Concat(ahead, texts(text), end(), texts("x")), len(ahead)+wrong, api.DSyntax)
		}
	}
	for text, wrong := range map[string]int{
		"package a,b;":              2,
		"package a.b;":              2,
		"package a;;":               3,
		"package a;package b;":      3,
		"package a;import b,c;":     5,
		"package a;import b c;":     5,
		"package a;import b.c;":     5,
		"package a;import b;;":      6,
		"package a;import;":         4,
		`package a;import "b";`:     4,
		"package a;import(b;)":      4,
		"import b;package a;":       0,
		"type T struct{}package a;": 0,
		"package int;":              1,
		"package a;import text;":    4,
		"package a;type int struct": 4,
		"package a;let x=1;":        3,
		"package a;return;":         3,
		"package a;x=1;":            3,
		"package a;{}":              3,
	} {
		wantFault(t, texts(text), wrong, api.DSyntax)
	}
}

// awaiting are texts behind which a type must begin.
func awaiting() []string {
	return []string{
		"type T struct{x", "type T struct{x int;y", "type I interface{m(", "type I interface{m(int,", "type I interface{m()", "type I interface{m();n(b.T)", "func(t", "func f[P", "func(t T)m[P I,Q", "func f(x", "func f[P I](x int,y", "func f()", "func(t T)m(x int)",
	}
}

// P6.2: an error within a type is that of typex, with its code and place.
func TestWrongType(t *testing.T) {
	for i, text := range awaiting() {
		before := texts(around()[i%len(around())] + " " + text)
		for _, behind := range [][]api.Token{nil, texts(";}"), texts("){}"), texts(",int"), texts("]({}"), end(), texts("let")} {
			want := func(wrong, code int, parts ...[]api.Token) {
				t.Helper()
				wantFault(t, slices.Concat(before, slices.Concat(parts...), behind), len(before)+wrong, code)
			}
			for _, s := range but("a") {
				want(2, api.DSyntax, texts("b."), one(s))
				want(4, api.DSyntax, texts("[]b."), one(s))
			}
			for _, s := range but("]") {
				want(1, api.DSyntax, texts("["), one(s))
				want(3, api.DSyntax, texts("[]["), one(s))
			}
			for _, s := range noType("") {
				want(2, api.DSyntax, texts("[]"), one(s))
			}
			of := texts("[]")
			want(60, api.DDeep, slices.Repeat(of, 31), texts("int"))
			want(60, api.DDeep, slices.Repeat(of, 30), texts("["))
			want(60, api.DDeep, slices.Repeat(of, 500))
			want(60, api.DSyntax, slices.Repeat(of, 30), texts(")"))
		}
		wantFault(t, slices.Concat(before, texts("b.")), len(before)+2, api.DSyntax)
		wantFault(t, slices.Concat(before, texts("[")), len(before)+1, api.DSyntax)
		wantFault(t, slices.Concat(before, texts("[]")), len(before)+2, api.DSyntax)
	}
}

// P6.2: an error within a block is that of stmtx, with its code and place.
func TestWrongBlock(t *testing.T) {
	number, text := one(tok(api.TNumber, "x")), one(tok(api.TText, "x"))
	for i, head := range []string{"func f()", "func f()int", "func f(x int)b.T", "func(t T)m()", "func(t T)m[P I](x P,y P)[]P"} {
		before := texts(around()[i%len(around())] + " " + head)
		for _, behind := range [][]api.Token{nil, texts("}"), texts(";}}"), texts("type T"), end()} {
			want := func(wrong, code int, parts ...[]api.Token) {
				t.Helper()
				wantFault(t, slices.Concat(before, slices.Concat(parts...), behind), len(before)+wrong, code)
			}
			want(2, api.DSyntax, texts("{let}"))
			want(3, api.DSyntax, texts("{let x}"))
			want(3, api.DSyntax, texts("{x=;}"))
			want(1, api.DSyntax, texts("{;}"))
			want(1, api.DSyntax, texts("{func f(){}}"))
			want(1, api.DSyntax, texts("{type T struct{}}"))
			want(1, api.DSyntax, texts("{import b;}"))
			want(2, api.DSyntax, texts("{a}"))
			want(3, api.DSyntax, texts("{if a}"))
			want(6, api.DSyntax, texts("{if a{}else if b{}}"))
			want(2, api.DSyntax, texts("{return)"))
			want(1, api.DNumber, texts("{"), number)
			want(4, api.DNumber, texts("{let x="), number, text)
			want(2, api.DText, texts("{return"), text)
			want(5, api.DText, texts("{f(a+"), text)
			want(32, api.DDeep, texts("{return"), slices.Repeat(texts("("), 31))
			want(63, api.DDeep, texts("{return new"), slices.Repeat(texts("[]"), 31), texts("int{};}"))
			want(90, api.DDeep, texts("{"), slices.Repeat(texts("if a{"), 30), slices.Repeat(texts("}"), 31))
			want(90, api.DDeep, texts("{"), slices.Repeat(texts("for a{"), 1000))
		}
		for _, open := range []string{"{", "{a;", "{let x=1", "{if a{}", "{for a", "{if a{}else{return;"} {
			l := slices.Concat(before, texts(open))
			wantFault(t, l, len(l), api.DSyntax)
			wantFault(t, slices.Concat(l, end(), texts("}}")), len(l), api.DSyntax)
		}
	}
}

// P6.2: of several errors the first one from the left is told.
func TestFirstError(t *testing.T) {
	number := one(tok(api.TNumber, "x"))
	deep := slices.Repeat(texts("[]"), 31)
	bad := slices.Concat(deep, number, texts("package ; } let"))
	for _, c := range []struct {
		text        string
		wrong, code int
		more        []api.Token
	}{
		{"", 0, api.DSyntax, slices.Concat(number, texts("package;"))},
		{"package package;import;type", 1, api.DSyntax, bad},
		{"package;a;type;", 1, api.DSyntax, bad},
		{"package a import b type", 2, api.DSyntax, bad},
		{"package a;import b import;type;", 5, api.DSyntax, bad},
		{"package a;import b;x import;y", 6, api.DSyntax, bad},
		{"package a;type T struct{}=", 8, api.DSyntax, bad},
		{"package a;type T struct{x)", 8, api.DSyntax, bad},
		{"package a;type T struct{x", 68, api.DDeep, bad},
		{"package a;type T struct{x b.;", 10, api.DSyntax, bad},
		{"package a;type T struct{x int,", 9, api.DSyntax, bad},
		{"package a;type T struct{x int;y b.T;z", 76, api.DDeep, bad},
		{"package a;type I interface{m(int,", 71, api.DDeep, bad},
		{"package a;type I interface{m(int,)", 11, api.DSyntax, bad},
		{"package a;func f()", 67, api.DDeep, bad},
		{"package a;func f(){", 8, api.DNumber, slices.Concat(number, bad)},
		{"package a;func f()b.T{return", 12, api.DNumber, slices.Concat(number, bad)},
		{"package a;func f(){}x type T struct{y}", 9, api.DSyntax, bad},
		{"package a;func f(x){", 7, api.DSyntax, slices.Concat(number, bad)},
		{"package a;func f[](", 6, api.DSyntax, bad},
		{"package a;func(t", 66, api.DDeep, bad},
		{"package a;func(t T)", 8, api.DSyntax, bad},
	} {
		wantFault(t, slices.Concat(texts(c.text), c.more), c.wrong, c.code)
	}
	// A package ends ahead of what would be wrong in it.
	l, f := pack("a", []string{"b"}, structure("T"))
	wantFile(t, list(l, end(), bad), f)
}

// P6.1: a token is judged by its Kind and Text alone: any places are answered as they are.
func TestPlaces(t *testing.T) {
	for _, at := range []int{0, -1, 5, math.MaxInt, math.MinInt} {
		for _, last := range []int{0, -1, 5, math.MaxInt, math.MinInt} {
			put := func(text string) []api.Token {
				l := texts(text)
				for i := range l {
					l[i].At, l[i].End = at, last
				}
				return l
			}
			x := api.TypeX{Kind: api.XInt, At: at}
			p := []api.Param{{Name: "x", At: at, T: x}}
			wantFile(t, put("package a;import b;type x struct{x int;}type x interface{x(int)int;}func(x int)x[x int](x int)int{return;}"), api.File{Name: "a", At: at, Imports: []api.Import{{Name: "b", At: at}}, Decls: []api.Decl{
				{Kind: 1, At: at, End: last, Name: "x", Fields: p},
				{Kind: 2, At: at, End: last, Name: "x", Methods: []api.MethodX{{Name: "x", At: at, Params: []api.TypeX{x}, Has: true, Result: x}}},
				{Kind: 3, At: at, End: last, Name: "x", Method: true, Recv: p[0], Bounds: p, Fields: p, Has: true, Result: x, Body: []api.Stmt{{Kind: api.SReturn, At: at}}},
			}})
			for _, text := range []string{"type", "package;", "package a;x", "package a;import;", "package a;type T;", "package a;func f(x){}", "package a;func f(){x=;}", "package a;type T struct{x b.;}"} {
				wantWrong(t, put(text), at, api.DSyntax)
			}
			wantWrong(t, put("package a;func f()"+strings.Repeat("[]", 31)), at, api.DDeep)
			wantWrong(t, put("package a;func f()"), last, api.DSyntax)
		}
	}
}

// edge leads from a state of the model on, at a token or at what another layer parses.
type edge struct {
	on, to string
	do     func(m *model)
}

// model parses by a table of states, in which no list knows of another.
type model struct {
	l      []api.Token
	at     int
	seen   api.Token
	typed  api.TypeX
	block  []api.Stmt
	f      api.File
	d      api.Decl
	m      api.MethodX
	named  api.Token
	states map[string][]edge
}

func (m *model) look() api.Token {
	if m.at < len(m.l) {
		return m.l[m.at]
	}
	if len(m.l) == 0 {
		return api.Token{}
	}
	return api.Token{At: m.l[len(m.l)-1].End}
}

func (m *model) param() api.Param {
	return api.Param{Name: m.named.Text, At: m.named.At, T: m.typed}
}

// states are those of the model: on a word `w`, a name `n`, a symbol `s`, a type, a block or an end, or on anything.
func states() map[string][]edge {
	note := func(m *model) { m.named = m.seen }
	declare := func(m *model) { m.d.Name, m.d.At = m.seen.Text, m.seen.At }
	field := func(m *model) { m.d.Fields = append(m.d.Fields, m.param()) }
	bound := func(m *model) { m.d.Bounds = append(m.d.Bounds, m.param()) }
	given := func(m *model) { m.m.Params = append(m.m.Params, m.typed) }
	kind := func(k int) func(m *model) { return func(m *model) { m.d.Kind = k } }
	ended := func(m *model) {
		m.d.End = m.l[m.at-1].End
		m.f.Decls, m.d = append(m.f.Decls, m.d), api.Decl{}
	}
	added := func(m *model) { m.d.Methods = append(m.d.Methods, m.m) }
	return map[string][]edge{
		"begin":      {{"w package", "its name", nil}},
		"its name":   {{"n", "named", func(m *model) { m.f.Name, m.f.At = m.seen.Text, m.seen.At }}},
		"named":      {{"s ;", "imports", nil}},
		"imports":    {{"w import", "import", nil}, {"", "decls", nil}},
		"import":     {{"n", "imported", func(m *model) { m.f.Imports = append(m.f.Imports, api.Import{Name: m.seen.Text, At: m.seen.At}) }}},
		"imported":   {{"s ;", "imports", nil}},
		"decls":      {{"end", "", nil}, {"w type", "type", nil}, {"w func", "func", kind(3)}},
		"type":       {{"n", "type T", declare}},
		"type T":     {{"w struct", "struct", kind(1)}, {"w interface", "interface", kind(2)}},
		"struct":     {{"s {", "fields", nil}},
		"fields":     {{"s }", "decls", ended}, {"n", "field", note}},
		"field":      {{"type", "field ;", field}},
		"field ;":    {{"s ;", "fields", nil}},
		"interface":  {{"s {", "methods", nil}},
		"methods":    {{"s }", "decls", ended}, {"n", "method", func(m *model) { m.m = api.MethodX{Name: m.seen.Text, At: m.seen.At} }}},
		"method":     {{"s (", "first type", nil}},
		"first type": {{"s )", "gives", nil}, {"type", "type ,", given}},
		"type ,":     {{"s )", "gives", nil}, {"s ,", "next type", nil}},
		"next type":  {{"type", "type ,", given}},
		"gives":      {{"s ;", "methods", added}, {"type", "method ;", func(m *model) { m.m.Has, m.m.Result = true, m.typed }}},
		"method ;":   {{"s ;", "methods", added}},
		"func":       {{"s (", "receiver", nil}, {"n", "func f", declare}},
		"receiver":   {{"n", "of type", note}},
		"of type":    {{"type", "receiver )", func(m *model) { m.d.Method, m.d.Recv = true, m.param() }}},
		"receiver )": {{"s )", "method of", nil}},
		"method of":  {{"n", "func f", declare}},
		"func f":     {{"s [", "bound", nil}, {"s (", "first", nil}},
		"bound":      {{"n", "bound of", note}},
		"bound of":   {{"type", "bound ,", bound}},
		"bound ,":    {{"s ,", "bound", nil}, {"s ]", "params", nil}},
		"params":     {{"s (", "first", nil}},
		"first":      {{"s )", "result", nil}, {"n", "param", note}},
		"param":      {{"type", "param ,", field}},
		"param ,":    {{"s )", "result", nil}, {"s ,", "next", nil}},
		"next":       {{"n", "param", note}},
		"result":     {{"s {", "body", func(m *model) { m.at-- }}, {"type", "body", func(m *model) { m.d.Has, m.d.Result = true, m.typed }}},
		"body":       {{"block", "decls", func(m *model) { m.d.Body = m.block; ended(m) }}},
	}
}

// takes tells whether an edge may be gone along, and goes on behind what it is on.
func (m *model) takes(on string) (bool, api.Diag) {
	var d api.Diag
	m.seen = m.look()
	switch t := m.seen; on {
	case "":
		return true, d
	case "type":
		m.typed, m.at, d = typex.Parse(m.l, m.at)
		return d.Code == 0, d
	case "block":
		m.block, m.at, d = stmtx.Parse(m.l, m.at)
		return d.Code == 0, d
	case "end":
		return t.Kind == 0, d
	case "n":
		if t.Kind != 1 {
			return false, d
		}
	default:
		kind := map[string]int{"s": 4, "w": 5}[on[:1]]
		if t.Kind != kind || t.Text != on[2:] {
			return false, d
		}
	}
	m.at++
	return true, d
}

// step goes along the first edge of a state that may be gone along.
func (m *model) step(state string) (string, api.Diag) {
	for _, e := range m.states[state] {
		ok, d := m.takes(e.on)
		if d.Code != 0 {
			return "", d
		}
		if ok {
			if e.do != nil {
				e.do(m)
			}
			return e.to, d
		}
	}
	return "", api.Diag{At: m.look().At, Code: 5}
}

var table = states()

func modelled(l []api.Token) (api.File, api.Diag) {
	m := model{l: l, states: table}
	for state := "begin"; state != ""; {
		next, d := m.step(state)
		if d.Code != 0 {
			return api.File{}, d
		}
		state = next
	}
	return m.f, api.Diag{}
}

// against holds Parse against the model.
func against(t *testing.T, l []api.Token) {
	t.Helper()
	want, wrong := modelled(l)
	f, d := filex.Parse(l)
	if !same(f, want) || d != wrong {
		t.Fatalf("Parse(%v):\n%+v, %v; want\n%+v, %v", l, f, d, want, wrong)
	}
}

// againstAll holds Parse against the model on all lists of up to so many tokens of an alphabet behind others.
func againstAll(t *testing.T, alphabet []api.Token, most int, begin string) {
	l := list(texts(begin))
	var longer func(n int)
	longer = func(n int) {
		against(t, l)
		if n == most {
			return
		}
		for _, s := range alphabet {
			s.At, s.End = oddAt(len(l)), oddEnd(len(l))
			l = append(l, s)
			longer(n + 1)
			l = l[:len(l)-1]
		}
	}
	longer(0)
}

// P6.1, P6.2: all short lists of tokens, of all kinds and of some.
func TestAllLists(t *testing.T) {
	everything := slices.Concat(texts("package import type struct interface func int { } ( ) [ ] , ; . a ="), end())
	againstAll(t, everything, 3, "")
	for _, before := range around() {
		againstAll(t, everything, 2, before)
	}
	for text := range places() {
		againstAll(t, everything, 2, "package a;"+text)
	}
	againstAll(t, texts("package import a ; type"), 6, "")
	againstAll(t, slices.Concat(texts("import a ;"), end()), 7, "package a;")
	againstAll(t, texts("a int , ; }"), 6, "package a;type T struct{")
	againstAll(t, texts("a . [ ] ; }"), 6, "package a;type T struct{")
	againstAll(t, texts("a ( ) , ; }"), 6, "package a;type I interface{")
	againstAll(t, texts("a ( ) , [ ]"), 6, "package a;func")
	againstAll(t, texts("a [ ] , ("), 6, "package a;func f")
	againstAll(t, texts("a , ) { }"), 6, "package a;func f(")
	againstAll(t, texts("a int { } func"), 6, "package a;func f()")
}

// rule is a fixed rule that shuffles.
type rule uint32

func (r *rule) below(n int) int {
	*r = *r*1664525 + 1013904223
	return int(*r>>16) % n
}

// kinds, blocks are put into what grows.
var kinds, blocks = types(), bodies()

func (r *rule) typed() []api.Token { return kinds[r.below(len(kinds))] }

// result is a type, or none.
func (r *rule) result() []api.Token {
	if r.below(2) == 0 {
		return nil
	}
	return r.typed()
}

func (r *rule) name() string { return []string{"a", "b", "T", "xy", "_"}[r.below(5)] }

func (r *rule) params(least int) []param {
	var l []param
	for range least + r.below(4) {
		l = append(l, param{r.name(), r.typed()})
	}
	return l
}

func (r *rule) methods() []method {
	var l []method
	for range r.below(4) {
		m := method{name: r.name(), result: r.result()}
		for range r.below(4) {
			m.params = append(m.params, r.typed())
		}
		l = append(l, m)
	}
	return l
}

func (r *rule) function() sample {
	of := parts{name: r.name(), params: r.params(0), result: r.result(), body: blocks[r.below(len(blocks))]}
	if r.below(2) == 0 {
		of.recv = &r.params(1)[0]
	}
	if r.below(2) == 0 {
		of.bounds = r.params(1)
	}
	return function(of)
}

// grown are a package's tokens, and its file.
func (r *rule) grown() ([]api.Token, api.File) {
	var imports []string
	for range r.below(4) {
		imports = append(imports, r.name())
	}
	var decls []sample
	for range r.below(5) {
		switch r.below(4) {
		case 0:
			decls = append(decls, structure(r.name(), r.params(0)...))
		case 1:
			decls = append(decls, iface(r.name(), r.methods()...))
		default:
			decls = append(decls, r.function())
		}
	}
	return pack(r.name(), imports, decls...)
}

// P6.1: packages of all shapes, in an order that a fixed rule shuffles.
func TestGrown(t *testing.T) {
	r := rule(1)
	for range 3000 {
		l, f := r.grown()
		wantFile(t, list(l), f)
		wantFile(t, list(l, end(), texts("x}")), f)
		against(t, list(l, end()))
	}
}

// P6.2: the same with a token put in, taken out or changed.
func TestSpoilt(t *testing.T) {
	r := rule(2)
	others := slices.Concat(all(), texts("package import type struct interface func int { } ( ) [ ] , ; . a"))
	for i := range 20000 {
		l, _ := r.grown()
		for range 1 + i%2 {
			at, other := r.below(len(l)), others[r.below(len(others))]
			switch r.below(3) {
			case 0:
				l = slices.Insert(l, at, other)
			case 1:
				l[at] = other
			default:
				l = append(slices.Delete(l, at, at+1), symbol(";"))
			}
		}
		against(t, list(l))
	}
}

// P6.2: Text tells what lex does, each of its codes, even if what Parse would tell stands further left.
func TestTextErrors(t *testing.T) {
	long := strings.Repeat("n", 41)
	for text, want := range map[string]api.Diag{
		"#":                                     {At: 0, Code: api.DByte},
		"package a;#":                           {At: 10, Code: api.DByte},
		"package a;func f(){return a&b;}":       {At: 27, Code: api.DByte},
		"x x;type \x80":                         {At: 9, Code: api.DByte},
		"package a;func f(){return 07;}":        {At: 26, Code: api.DNumber},
		"; 1234567890123456;":                   {At: 2, Code: api.DNumber},
		"package \"a":                           {At: 8, Code: api.DText},
		"} \"a\nb\"":                            {At: 2, Code: api.DText},
		"\"" + strings.Repeat("x", 201) + "\"":  {At: 0, Code: api.DText},
		"package " + long + ";":                 {At: 8, Code: api.DLong},
		"package a;import b;x " + long:          {At: 21, Code: api.DLong},
		"package a;type T " + long + "\"":       {At: 17, Code: api.DLong},
		"package a;func f(){\"" + "\x1f" + "\"": {At: 19, Code: api.DText},
		strings.Repeat(";", 4001):               {At: 4000, Code: api.DDeep},
		strings.Repeat("; ", 4000) + "#":        {At: 8000, Code: api.DDeep},
		"package a;" + strings.Repeat("import b;", 1332) + "type T;": {At: 10 + 9*1332 + 5, Code: api.DDeep},
	} {
		wantNoText(t, text, want.At, want.Code)
	}
	// As long as lex permits.
	long = long[:40]
	wantText(t, "package "+long+";", api.File{Name: long, At: 8})
	many := "package a;" + strings.Repeat("import b;", 1329) + "type T struct{}type U struct{}"
	f, d := filex.Text(many)
	if len(f.Imports) != 1329 || len(f.Decls) != 2 || d != (api.Diag{}) {
		t.Errorf("4000 tokens: %d, %d, %v", len(f.Imports), len(f.Decls), d)
	}
	wantNoText(t, many+"}", len(many), api.DDeep)
	wantNoText(t, many[:len(many)-1]+";", len(many)-1, api.DSyntax)
}

// write is a text with tokens, with a layout ahead of each and behind the last one.
func write(l []api.Token, layout func(i int) string) string {
	var b strings.Builder
	for i, t := range l {
		b.WriteString(layout(i))
		b.WriteString(t.Text)
	}
	b.WriteString(layout(len(l)))
	return b.String()
}

// lexable tells whether lex can produce tokens.
func lexable(l []api.Token) bool {
	return !slices.ContainsFunc(l, func(t api.Token) bool {
		found, d := lex.All(t.Text)
		return d.Code != 0 || len(found) != 2 || found[0].Kind != t.Kind || found[0].Text != t.Text
	})
}

// layouts are those to write tokens with: as little as there can be, and more.
func layouts(l []api.Token) []func(i int) string {
	comments := []string{" ", "\n", "\t//\n", "\r\n", "// } \" package a;\n", " // \xff\x00\n\n", "  "}
	return []func(i int) string{
		func(i int) string {
			if i == 0 || i == len(l) {
				return ""
			}
			both, _ := lex.All(l[i-1].Text + l[i].Text)
			if len(both) == 3 && both[0].Text == l[i-1].Text {
				return ""
			}
			return " "
		},
		func(i int) string { return " " },
		func(i int) string { return "//\n" },
		func(i int) string { return comments[i%len(comments)] },
		func(i int) string {
			if i == len(l) {
				return "// the end"
			}
			return "\n\n" + comments[i*i%len(comments)]
		},
	}
}

// placeless changes all offsets in what a pointer is to, or in its parts, to 0.
func placeless(v reflect.Value) {
	switch v.Kind() {
	case reflect.Slice:
		for i := range v.Len() {
			placeless(v.Index(i))
		}
	case reflect.Struct:
		for i := range v.NumField() {
			if n := v.Type().Field(i).Name; n == "At" || n == "End" {
				v.Field(i).SetInt(0)
			}
			placeless(v.Field(i))
		}
	}
}

// wantNamed holds that a name stands in a text at an offset.
func wantNamed(t *testing.T, text, name string, at int) {
	t.Helper()
	if at < 0 || at > len(text) || !strings.HasPrefix(text[at:], name) {
		t.Fatalf("%q: no %q at %d", text, name, at)
	}
}

// wantPlaced holds that all names stand where a file says, one behind the other, and that declarations end with their brackets.
func wantPlaced(t *testing.T, text string, f api.File) {
	t.Helper()
	behind := 0
	further := func(name string, at int) {
		t.Helper()
		wantNamed(t, text, name, at)
		if at < behind {
			t.Fatalf("%q: %q at %d, ahead of %d", text, name, at, behind)
		}
		behind = at + len(name)
	}
	params := func(l []api.Param) {
		t.Helper()
		for _, p := range l {
			further(p.Name, p.At)
			further("", p.T.At)
		}
	}
	further(f.Name, f.At)
	for _, i := range f.Imports {
		further(i.Name, i.At)
	}
	for _, d := range f.Decls {
		if d.Method {
			params([]api.Param{d.Recv})
		}
		further(d.Name, d.At)
		params(d.Bounds)
		params(d.Fields)
		for _, m := range d.Methods {
			further(m.Name, m.At)
		}
		if d.Has {
			further("", d.Result.At)
		}
		further("}", d.End-1)
	}
}

// P6.3: texts that differ in layout and comments alone give the same file but for offsets; these lie in the text, where the names stand.
func TestLayout(t *testing.T) {
	r := rule(3)
	checked := 0
	for range 2000 {
		l, f := r.grown()
		if !lexable(l) {
			continue
		}
		checked++
		placeless(reflect.ValueOf(&f).Elem())
		for _, layout := range layouts(l) {
			text := write(l, layout)
			g, d := filex.Text(text)
			if d != (api.Diag{}) {
				t.Fatalf("Text(%q): %v", text, d)
			}
			wantPlaced(t, text, g)
			wantFile(t, source(text), g)
			placeless(reflect.ValueOf(&g).Elem())
			if !same(f, g) {
				t.Fatalf("Text(%q), without places:\n%+v; want\n%+v", text, g, f)
			}
		}
	}
	if checked < 500 {
		t.Errorf("%d packages", checked)
	}
}

// P6.3: the same of texts with an error: its code is the same, and it is that of the same token.
func TestWrongLayout(t *testing.T) {
	for text, wrong := range map[string]int{
		"package ;":                        1,
		"package a;import b;c":             6,
		"package a;type T struct{x int,}":  9,
		"package a;func f[](){}":           6,
		"package a;func f(x b.){}":         9,
		"package a;func f(){let x=;}":      11,
		"package a;type I interface{m()":   10,
		"package a;func f(){}func g(){}};": 15,
	} {
		l := texts(text)
		for _, layout := range layouts(l) {
			written := write(l, layout)
			tokens, _ := lex.All(written)
			wantNoText(t, written, tokens[wrong].At, api.DSyntax)
		}
	}
}

// P6.2: Text is Parse of lex's tokens, for texts of all kinds.
func TestTextIsParse(t *testing.T) {
	r := rule(4)
	others := slices.Concat(all(), one(symbol("#"), symbol("07"), symbol("\""), symbol("//")))
	for range 5000 {
		l, _ := r.grown()
		for range r.below(3) {
			l[r.below(len(l))] = others[r.below(len(others))]
		}
		text := write(l, func(int) string { return []string{"", " ", " ", "\n"}[r.below(4)] })
		tokens, wrong := lex.All(text)
		want, d := modelled(tokens)
		if wrong.Code != 0 {
			want, d = api.File{}, wrong
		}
		if f, got := filex.Text(text); !same(f, want) || got != d {
			t.Fatalf("Text(%q):\n%+v, %v; want\n%+v, %v", text, f, got, want, d)
		}
	}
}

// R1: no kind, text or place makes it panic.
func TestNoPanic(t *testing.T) {
	for _, s := range all() {
		against(t, list(one(s)))
		for _, o := range all() {
			against(t, list(one(s, o)))
			against(t, list(texts("package a;"), one(s, o)))
			against(t, list(texts("package a;func f("), one(s, o)))
		}
		against(t, slices.Repeat(one(s), 1000))
		for _, before := range around() {
			against(t, list(texts(before), slices.Repeat(one(s), 100)))
		}
	}
	for _, s := range []string{"[", "[]", "(", "{", "{if a{", "()[]", "a", "a,", ".", "int;"} {
		for text := range places() {
			against(t, list(texts("package a;"+text), slices.Repeat(texts(s), 2000)))
		}
	}
	for b := range 256 {
		for c := range 256 {
			filex.Text(string([]byte{byte(b), byte(c)}))
			filex.Text("package a;" + string([]byte{byte(b), byte(c)}))
		}
	}
}

// samples are texts right and wrong, with lists of all kinds.
func samples() []string {
	return []string{
		"package a;import b;import c;type T struct{x int;y []b.T;}type I interface{m(int,b.T)[]bool;n();}func(t T)m[P I,Q J](x P,y Q)[]P{let z=new []T{x,y};if z{return z;}else{f(1,2);}}",
		"package a;", "package a;func f(){}", "", "package", "package a;type T struct{x int;y [}", "package a;func f(x int,){}", "package a;func f(){x=;}", "package a;import b;x",
	}
}

// R4: the tokens stay as they are, those in the spare capacity too, and these are not read.
func TestArgument(t *testing.T) {
	for _, text := range samples() {
		all, _ := lex.All(text)
		before := slices.Clone(all)
		for n := range len(all) + 1 {
			f, d := filex.Parse(all[:n])
			g, wrong := filex.Parse(slices.Clip(slices.Clone(all[:n])))
			if !same(f, g) || d != wrong {
				t.Errorf("%q up to %d: %v, %v; clipped: %v, %v", text, n, f, d, g, wrong)
			}
		}
		if !slices.Equal(all, before) {
			t.Errorf("%q: the tokens are now %v", text, all)
		}
	}
}

// span is memory, up to its end.
type span struct{ begin, end uintptr }

// memory are the spans of all lists, with their spare capacity, and of all texts in a value.
func memory(v reflect.Value) (lists, texts []span) {
	var inside func(v reflect.Value)
	inside = func(v reflect.Value) {
		switch v.Kind() {
		case reflect.String:
			s := v.String()
			begin := reflect.ValueOf(unsafe.StringData(s)).Pointer()
			texts = append(texts, span{begin, begin + uintptr(len(s))})
		case reflect.Slice:
			begin := v.Pointer()
			lists = append(lists, span{begin, begin + uintptr(v.Cap())*v.Type().Elem().Size()})
			for i := range v.Len() {
				inside(v.Index(i))
			}
		case reflect.Struct:
			for i := range v.NumField() {
				inside(v.Field(i))
			}
		}
	}
	inside(v)
	return lists, texts
}

// apart tells whether no two of some spans share memory.
func apart(l []span) bool {
	l = slices.DeleteFunc(slices.Clone(l), func(s span) bool { return s.begin == s.end })
	slices.SortFunc(l, func(a, b span) int { return cmp.Compare(a.begin, b.begin) })
	for i := range l {
		if i > 0 && l[i].begin < l[i-1].end {
			return false
		}
	}
	return true
}

// wantApart holds that no two lists of two answers and of other memory share any, and that no text of theirs lies in the other.
func wantApart(t *testing.T, f, g api.File, other any) {
	t.Helper()
	lists, within := memory(reflect.ValueOf(f))
	more, texts := memory(reflect.ValueOf(g))
	others, given := memory(reflect.ValueOf(other))
	if !apart(slices.Concat(lists, more, others)) {
		t.Errorf("%+v: lists share memory", f)
	}
	for _, s := range slices.Concat(within, texts) {
		for _, o := range given {
			if s.begin < o.end && o.begin < s.end {
				t.Fatalf("%+v: a text of it is one that was given", f)
			}
		}
	}
}

// R4: files are new memory: they keep neither the tokens nor the text, their lists share none, and none with another answer.
func TestNewMemory(t *testing.T) {
	r := rule(5)
	for range 500 {
		l, want := r.grown()
		l = list(l)
		for i := range l {
			l[i].Text = strings.Clone(l[i].Text)
		}
		f, _ := filex.Parse(l)
		g, _ := filex.Parse(l)
		wantApart(t, f, g, l)
		clear(l)
		if !same(f, want) || !same(g, want) {
			t.Fatalf("%+v; want %+v", f, want)
		}
	}
	for _, text := range samples() {
		text = strings.Clone(text)
		f, _ := filex.Text(text)
		g, _ := filex.Text(text)
		wantApart(t, f, g, text)
	}
}

// R5: the same answer each time, whatever was asked before.
func TestAgain(t *testing.T) {
	type answer struct {
		f api.File
		d api.Diag
	}
	first := map[string]answer{}
	for range 3 {
		for _, text := range slices.Concat(samples(), []string{"package a;func f(){\"", "package a;type T struct{x " + strings.Repeat("[]", 31) + "int;}"}) {
			f, d := filex.Text(text)
			told, seen := first[text]
			if seen && !reflect.DeepEqual(told, answer{f, d}) {
				t.Errorf("%q: %v, then %v", text, told, answer{f, d})
			}
			first[text] = answer{f, d}
		}
	}
}
