package sig_test

import (
	"fmt"
	"math"
	"reflect"
	"regexp"
	"slices"
	"strconv"
	"strings"
	"testing"

	"quoin/api"
	"quoin/filex"
	"quoin/sig"
	"quoin/term"
)

// unknown are numbers that are no Kind of a type as a text writes it, nor of a declaration.
func unknown() []int {
	return []int{0, -1, 6, 7, -2, 255, 256, math.MaxInt, math.MinInt}
}

func ofKind(kind int) api.Type { return api.Type{Kind: kind} }

func named(pack, name string) api.Type { return api.Type{Kind: 4, Pkg: pack, Name: name} }

func list(arg api.Type) api.Type { return api.Type{Kind: 5, Args: []api.Type{arg}} }

func param(n int, name string) api.Type { return api.Type{Kind: 6, N: n, Name: name} }

func xKind(kind, at int) api.TypeX { return api.TypeX{Kind: kind, At: at} }

func xName(at int, pack, name string) api.TypeX {
	return api.TypeX{Kind: 4, At: at, Pkg: pack, Name: name}
}

func xList(at int, args ...api.TypeX) api.TypeX { return api.TypeX{Kind: 5, At: at, Args: args} }

// pack is a package that declares types: a name in brackets is an interface's.
func pack(name string, types ...string) api.Iface {
	p := api.Iface{Pkg: name}
	for _, s := range types {
		bare := strings.Trim(s, "()")
		p.Types = append(p.Types, api.TypeDecl{Name: bare, Struct: bare == s})
	}
	return p
}

// The model: each promise to the letter.

func modelSorted(l []api.Diag) []api.Diag {
	var sorted []api.Diag
	for _, d := range l {
		at := 0
		for at < len(sorted) && (sorted[at].At < d.At || sorted[at].At == d.At && sorted[at].Code < d.Code) {
			at++
		}
		if at == len(sorted) || sorted[at] != d {
			sorted = slices.Insert(sorted, at, d)
		}
	}
	return sorted
}

func declares(p api.Iface, name string) bool {
	return slices.ContainsFunc(p.Types, func(t api.TypeDecl) bool { return t.Name == name })
}

func modelType(s api.Scope, x api.TypeX) (api.Type, api.Diag) {
	w := append(slices.Clone(s.W), api.Iface{})
	if len(s.W) > 0 {
		w = w[:len(s.W)]
	}
	wrong := api.Diag{At: x.At, Code: 10}
	switch {
	case x.Kind >= 1 && x.Kind <= 3:
		return ofKind(x.Kind), api.Diag{}
	case x.Kind == 5 && len(x.Args) == 0:
		return list(api.Type{}), api.Diag{}
	case x.Kind == 5:
		t, d := modelType(s, x.Args[0])
		return list(t), d
	case x.Kind != 4:
		return api.Type{}, api.Diag{}
	case x.Pkg == "" && slices.Contains(s.Names, x.Name):
		return param(slices.Index(s.Names, x.Name), x.Name), api.Diag{}
	case x.Pkg == "" && declares(w[0], x.Name):
		return named(w[0].Pkg, x.Name), api.Diag{}
	case x.Pkg == "" || !slices.Contains(s.Imports, x.Pkg):
		return api.Type{}, wrong
	}
	at := slices.IndexFunc(w[1:], func(p api.Iface) bool { return p.Pkg == x.Pkg })
	switch {
	case at < 0:
		return api.Type{}, api.Diag{}
	case declares(w[1+at], x.Name):
		return named(x.Pkg, x.Name), api.Diag{}
	}
	return api.Type{}, wrong
}

// model builds what a package shows.
type model struct {
	f     api.File
	w     []api.Iface
	shown api.Iface
	wrong []api.Diag
}

func (m *model) add(at, code int) { m.wrong = append(m.wrong, api.Diag{At: at, Code: code}) }

// top tells whether the declaration with an index is a type or a function without receiver.
func (m *model) top(i int) bool {
	d := m.f.Decls[i]
	return d.Kind == 1 || d.Kind == 2 || d.Kind == 3 && !d.Method
}

// ignored tells it of a type, or a function without receiver.
func (m *model) ignored(i int) bool {
	for k := range i {
		if m.top(k) && m.f.Decls[k].Name == m.f.Decls[i].Name {
			return true
		}
	}
	return false
}

func (m *model) typed(names []string, x api.TypeX) api.Type {
	s := api.Scope{W: m.w, Names: names}
	for _, i := range m.f.Imports {
		s.Imports = append(s.Imports, i.Name)
	}
	t, d := modelType(s, x)
	if d != (api.Diag{}) {
		m.add(d.At, d.Code)
	}
	return t
}

func (m *model) result(names []string, has bool, x api.TypeX) api.Type {
	if has {
		return m.typed(names, x)
	}
	return ofKind(7)
}

func (m *model) params(names []string, l []api.Param) []api.Type {
	var types []api.Type
	for i, p := range l {
		if slices.ContainsFunc(l[:i], func(q api.Param) bool { return q.Name == p.Name }) {
			m.add(p.At, 9)
		}
		types = append(types, m.typed(names, p.T))
	}
	return types
}

// ownStruct is the index of the declared struct that a type is; -1 if there is none.
func (m *model) ownStruct(t api.Type) int {
	return slices.IndexFunc(m.shown.Types, func(d api.TypeDecl) bool {
		return t.Kind == 4 && t.Pkg == m.f.Name && t.Name == d.Name && d.Struct
	})
}

func (m *model) bounds(l []api.Param) ([]string, []api.Type) {
	var names []string
	var bounds []api.Type
	for i, p := range l {
		switch {
		case i == 16:
			m.add(p.At, 12)
		case i > 16:
		case slices.Contains(names, p.Name):
			m.add(p.At, 9)
		default:
			t := m.typed(nil, p.T)
			if t.Kind != 0 && !m.asks(t) {
				m.add(p.T.At, 15)
				t = api.Type{}
			}
			names, bounds = append(names, p.Name), append(bounds, t)
		}
	}
	return names, bounds
}

// asks tells whether a type is an interface: by the first declaration of its name in the packages of its package's name.
func (m *model) asks(t api.Type) bool {
	for _, p := range m.w {
		for _, d := range p.Types {
			if t.Kind == 4 && t.Pkg == p.Pkg && t.Name == d.Name {
				return !d.Struct
			}
		}
	}
	return false
}

func (m *model) method(d api.Decl) {
	at := -1
	if x := d.Recv.T; x.Kind == 4 && x.Pkg == "" {
		at = m.ownStruct(named(m.f.Name, x.Name))
	}
	if at < 0 {
		m.add(d.Recv.T.At, 17)
		return
	}
	t := &m.shown.Types[at]
	switch {
	case slices.ContainsFunc(t.Fields, func(f api.Field) bool { return f.Name == d.Name }), slices.ContainsFunc(t.Methods, func(o api.Method) bool { return o.Name == d.Name }):
		m.add(d.At, 9)
		return
	case len(d.Bounds) > 0:
		m.add(d.Bounds[0].At, 15)
	}
	t.Methods = append(t.Methods, api.Method{Name: d.Name, Params: m.params(nil, d.Fields), Result: m.result(nil, d.Has, d.Result)})
}

// held are the fields and the methods that a declared type has by itself.
func (m *model) held(d api.Decl) (fields []api.Field, methods []api.Method) {
	for i, p := range d.Fields {
		if d.Kind != 1 {
			break
		}
		if slices.ContainsFunc(d.Fields[:i], func(q api.Param) bool { return q.Name == p.Name }) {
			m.add(p.At, 9)
			continue
		}
		fields = append(fields, api.Field{Name: p.Name, T: m.typed(nil, p.T)})
	}
	for i, x := range d.Methods {
		if d.Kind != 2 {
			break
		}
		if slices.ContainsFunc(d.Methods[:i], func(q api.MethodX) bool { return q.Name == x.Name }) {
			m.add(x.At, 9)
			continue
		}
		method := api.Method{Name: x.Name}
		for _, p := range x.Params {
			method.Params = append(method.Params, m.typed(nil, p))
		}
		method.Result = m.result(nil, x.Has, x.Result)
		methods = append(methods, method)
	}
	return fields, methods
}

// endless: which struct has a field that is which, then over one more, and so on.
func (m *model) endless(decls []api.Decl) {
	n := len(decls)
	leads := make([][]bool, n)
	for i, d := range m.shown.Types {
		leads[i] = make([]bool, n)
		for _, f := range d.Fields {
			if at := m.ownStruct(f.T); at >= 0 {
				leads[i][at] = true
			}
		}
	}
	for k := range n {
		for i := range n {
			for j := range n {
				leads[i][j] = leads[i][j] || leads[i][k] && leads[k][j]
			}
		}
	}
	for i, d := range decls {
		if leads[i][i] {
			m.add(d.At, 18)
		}
	}
}

func modelBuild(f api.File, imports []api.Iface) (api.Iface, []api.Diag) {
	m := model{f: f, shown: api.Iface{Pkg: f.Name}}
	var decls []api.Decl
	for i, d := range f.Decls {
		if m.top(i) && m.ignored(i) {
			m.add(d.At, 9)
		} else if d.Kind == 1 || d.Kind == 2 {
			decls = append(decls, d)
			m.shown.Types = append(m.shown.Types, api.TypeDecl{Name: d.Name, Struct: d.Kind == 1})
		}
	}
	m.w = append([]api.Iface{{Pkg: f.Name, Types: slices.Clone(m.shown.Types)}}, imports...)
	for i, d := range decls {
		m.shown.Types[i].Fields, m.shown.Types[i].Methods = m.held(d)
	}
	for i, d := range f.Decls {
		if d.Kind == 3 && d.Method {
			m.method(d)
		} else if d.Kind == 3 && !m.ignored(i) {
			names, bounds := m.bounds(d.Bounds)
			m.shown.Funcs = append(m.shown.Funcs, api.FuncDecl{Name: d.Name, Bounds: bounds, Params: m.params(names, d.Fields), Result: m.result(names, d.Has, d.Result)})
		}
	}
	m.endless(decls)
	return m.shown, modelSorted(m.wrong)
}

// spellType is a type, so written that any two differ.
func spellType(t api.Type) string {
	if t.Pkg == "" && t.Name == "" && t.N == 0 {
		switch {
		case len(t.Args) == 0 && t.Kind >= 0 && t.Kind <= 3:
			return []string{"?", "int", "bool", "text"}[t.Kind]
		case len(t.Args) == 0 && t.Kind == 7:
			return "none"
		case len(t.Args) == 1 && t.Kind == 5:
			return "[]" + spellType(t.Args[0])
		}
	}
	switch {
	case len(t.Args) == 0 && t.Kind == 4 && t.N == 0:
		return t.Pkg + "." + t.Name
	case len(t.Args) == 0 && t.Kind == 6 && t.Pkg == "":
		return t.Name + "'" + strconv.Itoa(t.N)
	}
	return fmt.Sprintf("%+v", t)
}

func spellTypes(l []api.Type) string {
	var texts []string
	for _, t := range l {
		texts = append(texts, spellType(t))
	}
	return strings.Join(texts, ",")
}

// spell is what a package shows.
func spell(p api.Iface) string {
	text := p.Pkg + ":"
	for _, t := range p.Types {
		if t.Struct {
			text += " struct " + t.Name + "{"
		} else {
			text += " interface " + t.Name + "{"
		}
		for _, f := range t.Fields {
			text += f.Name + " " + spellType(f.T) + ";"
		}
		for _, m := range t.Methods {
			text += m.Name + "(" + spellTypes(m.Params) + ")" + spellType(m.Result) + ";"
		}
		text += "}"
	}
	for _, f := range p.Funcs {
		text += " func " + f.Name
		if len(f.Bounds) > 0 {
			text += "[" + spellTypes(f.Bounds) + "]"
		}
		text += "(" + spellTypes(f.Params) + ")" + spellType(f.Result)
	}
	return text
}

// told is the beginning of what there is of something.
func told(x any) string {
	return fmt.Sprintf("%.1500s", fmt.Sprintf("%+v", x))
}

func wantSorted(t *testing.T, l, want []api.Diag) {
	t.Helper()
	before := slices.Clone(l)
	if got := sig.Sorted(l); !slices.Equal(got, want) || !slices.Equal(modelSorted(l), want) {
		t.Fatalf("Sorted(%v): %v; model %v; want %v", l, got, modelSorted(l), want)
	}
	if !slices.Equal(l, before) {
		t.Fatalf("changed: %v; was %v", l, before)
	}
}

// wantType tells a type as spellType does.
func wantType(t *testing.T, s api.Scope, x api.TypeX, want string, wrong api.Diag) {
	t.Helper()
	got, d := sig.Type(s, x)
	model, dm := modelType(s, x)
	if spellType(got) != want || d != wrong || spellType(model) != want || dm != wrong {
		t.Fatalf("Type(%s, %s): %s, %v; model %s, %v; want %s, %v", told(s), told(x), spellType(got), d, spellType(model), dm, want, wrong)
	}
}

// against holds Build against the model, and that what is handed in stays as it was.
func against(t *testing.T, f api.File, imports []api.Iface) (api.Iface, []api.Diag) {
	t.Helper()
	file, packs := copied(f), copied(imports)
	got, wrong := sig.Build(f, imports)
	if !reflect.DeepEqual(file, f) || !reflect.DeepEqual(packs, imports) {
		t.Fatalf("changed: %s, %s", told(f), told(imports))
	}
	if want, errors := modelBuild(f, imports); spell(got) != spell(want) || !slices.Equal(wrong, errors) {
		t.Fatalf("Build(%s, %s):\n%s, %v; model\n%s, %v", told(f), told(imports), spell(got), wrong, spell(want), errors)
	}
	return got, wrong
}

var mark = regexp.MustCompile(`@(\d+)@`)

// unmarked is a text without its marks, and the errors that these tell: @9@ is one of the Code 9 where the mark stands.
func unmarked(text string) (string, []api.Diag) {
	var wrong []api.Diag
	for {
		at := mark.FindStringSubmatchIndex(text)
		if at == nil {
			return text, wrong
		}
		code, _ := strconv.Atoi(text[at[2]:at[3]])
		wrong = append(wrong, api.Diag{At: at[0], Code: code})
		text = text[:at[0]] + text[at[1]:]
	}
}

func parsed(t *testing.T, text string) api.File {
	t.Helper()
	f, d := filex.Text(text)
	if d.Code != 0 {
		t.Fatalf("%q: %v", text, d)
	}
	return f
}

// wantBuild tells a package's text with marks where errors are, and what it shows as spell does.
func wantBuild(t *testing.T, text, want string, imports ...api.Iface) {
	t.Helper()
	plain, errors := unmarked(text)
	got, wrong := against(t, parsed(t, plain), imports)
	if spell(got) != want || !slices.Equal(wrong, modelSorted(errors)) {
		t.Fatalf("%s:\n%s\n%v; want\n%s\n%v", plain, spell(got), wrong, want, errors)
	}
}

// wantFile tells a file, for what no text is parsed as.
func wantFile(t *testing.T, f api.File, want string, errors ...api.Diag) {
	t.Helper()
	got, wrong := against(t, f, nil)
	if spell(got) != want || !slices.Equal(wrong, errors) {
		t.Fatalf("%s:\n%s\n%v; want\n%s\n%v", told(f), spell(got), wrong, want, errors)
	}
}

// The chapter's examples.
func TestExamples(t *testing.T) {
	wantBuild(t, "package a;type T struct{x int;y []T;}func(t T)m(i I)T{}type I interface{n();}", "a: struct T{x int;y []a.T;m(a.I)a.T;} interface I{n()none;}")
	wantBuild(t, "package a;type @18@T struct{t T;}", "a: struct T{t a.T;}")
	wantBuild(t, "package a;func f(x @10@U,@9@x int){}func @9@f(){}", "a: func f(?,int)none")
	wantBuild(t, "package a;func(t @17@int)m(){}", "a:")
	plain, wrong := unmarked("package a;func f(x @10@U,@9@x int){}func @9@f(){}")
	if want := []api.Diag{{At: 19, Code: 10}, {At: 21, Code: 9}, {At: 34, Code: 9}}; !slices.Equal(wrong, want) || strings.Contains(plain, "@") {
		t.Errorf("%q, %v", plain, wrong)
	}
}

// P10.1: none, one and many; equal ones that stand apart; the same At or the same Code; negative numbers.
func TestSorted(t *testing.T) {
	d := func(at, code int) api.Diag { return api.Diag{At: at, Code: code} }
	of := func(l ...api.Diag) []api.Diag { return l }
	wantSorted(t, nil, nil)
	wantSorted(t, of(), nil)
	wantSorted(t, of(d(3, 9)), of(d(3, 9)))
	wantSorted(t, of(d(0, 0)), of(d(0, 0)))
	wantSorted(t, of(d(3, 9), d(3, 9)), of(d(3, 9)))
	wantSorted(t, of(d(0, 0), d(0, 0), d(0, 0)), of(d(0, 0)))
	wantSorted(t, of(d(3, 9), d(1, 9), d(3, 9)), of(d(1, 9), d(3, 9)))
	wantSorted(t, of(d(1, 9), d(3, 9), d(1, 9), d(2, 9), d(3, 9)), of(d(1, 9), d(2, 9), d(3, 9)))
	wantSorted(t, of(d(3, 10), d(3, 9)), of(d(3, 9), d(3, 10)))
	wantSorted(t, of(d(3, 9), d(3, 10)), of(d(3, 9), d(3, 10)))
	wantSorted(t, of(d(3, 10), d(3, 9), d(3, 10), d(3, 2)), of(d(3, 2), d(3, 9), d(3, 10)))
	wantSorted(t, of(d(5, 9), d(4, 9)), of(d(4, 9), d(5, 9)))
	wantSorted(t, of(d(5, 1), d(4, 18)), of(d(4, 18), d(5, 1)))
	wantSorted(t, of(d(10, 1), d(9, 2), d(100, 0)), of(d(9, 2), d(10, 1), d(100, 0)))
	wantSorted(t, of(d(0, 9), d(-1, 9), d(-10, 9), d(-2, 9)), of(d(-10, 9), d(-2, 9), d(-1, 9), d(0, 9)))
	wantSorted(t, of(d(1, 0), d(1, -1), d(1, -10), d(1, 1)), of(d(1, -10), d(1, -1), d(1, 0), d(1, 1)))
	wantSorted(t, of(d(math.MaxInt, 1), d(math.MinInt, 1), d(0, math.MaxInt), d(0, math.MinInt), d(math.MinInt, 1)), of(d(math.MinInt, 1), d(0, math.MinInt), d(0, math.MaxInt), d(math.MaxInt, 1)))
}

// P10.1: all lists of up to five out of few.
func TestSortedAll(t *testing.T) {
	few := []api.Diag{{At: -1, Code: 2}, {At: 0, Code: -2}, {At: 0, Code: 0}, {At: 0, Code: 2}, {At: 3, Code: 0}, {At: 3, Code: 2}}
	lists := [][]api.Diag{nil}
	for i := 0; i < len(lists); i++ {
		wantSorted(t, lists[i], modelSorted(lists[i]))
		for _, d := range few {
			if len(lists[i]) < 5 {
				lists = append(lists, append(slices.Clone(lists[i]), d))
			}
		}
	}
}

// P10.1: many.
func TestSortedMany(t *testing.T) {
	d := dice(3)
	var many []api.Diag
	for range 200000 {
		many = append(many, api.Diag{At: d.below(700) - 350, Code: d.below(200) - 100})
	}
	got := sig.Sorted(many)
	met := map[api.Diag]bool{}
	for i, x := range got {
		met[x] = true
		if i > 0 && (got[i-1].At > x.At || got[i-1].At == x.At && got[i-1].Code >= x.Code) {
			t.Fatalf("%v behind %v", x, got[i-1])
		}
	}
	for _, x := range many {
		if !met[x] {
			t.Fatalf("%v is missing", x)
		}
	}
	if len(got) < 50000 || len(got) >= len(many) || len(met) != len(got) {
		t.Errorf("%d of %d", len(got), len(many))
	}
}

// P10.2: each Kind, and unknown ones; what a Kind does not use changes nothing.
func TestTypeKinds(t *testing.T) {
	s := api.Scope{W: []api.Iface{pack("a", "T"), pack("b", "T")}, Imports: []string{"b"}, Names: []string{"P"}}
	for _, scope := range []api.Scope{{}, s} {
		for kind, want := range map[int]string{1: "int", 2: "bool", 3: "text"} {
			for _, x := range []api.TypeX{{}, {At: 7}, {Pkg: "x", Name: "T"}, {Name: "P"}, {Name: "U", Args: []api.TypeX{xName(1, "", "U")}}} {
				x.Kind = kind
				wantType(t, scope, x, want, api.Diag{})
				wantType(t, scope, xList(3, x), "[]"+want, api.Diag{})
			}
		}
		for _, kind := range unknown() {
			for _, x := range []api.TypeX{{}, {At: 7}, {Pkg: "x", Name: "T"}, {Name: "P"}, {Name: "T"}, {Name: "U", At: -3}, {At: 2, Args: []api.TypeX{xName(1, "", "U")}}} {
				x.Kind = kind
				wantType(t, scope, x, "?", api.Diag{})
				wantType(t, scope, xList(3, x), "[]?", api.Diag{})
			}
		}
	}
	wantType(t, s, xName(1, "", "T"), "a.T", api.Diag{})
	wantType(t, s, xName(1, "", "P"), "P'0", api.Diag{})
	wantType(t, s, xName(1, "b", "T"), "b.T", api.Diag{})
}

// P10.2: lists in lists, without an argument, with several, and with an error within.
func TestTypeLists(t *testing.T) {
	s := api.Scope{W: []api.Iface{pack("a", "T")}, Imports: []string{"c"}, Names: []string{"P"}}
	wrong := api.Diag{At: 9, Code: 10}
	wantType(t, s, xList(1), "[]?", api.Diag{})
	wantType(t, s, api.TypeX{Kind: 5, Args: []api.TypeX{}}, "[]?", api.Diag{})
	wantType(t, s, xList(1, xList(2)), "[][]?", api.Diag{})
	wantType(t, s, xList(1, xKind(1, 2)), "[]int", api.Diag{})
	wantType(t, s, xList(1, xName(2, "", "T")), "[]a.T", api.Diag{})
	wantType(t, s, xList(1, xList(2, xName(3, "", "P"))), "[][]P'0", api.Diag{})
	wantType(t, s, xList(1, xList(2, xList(3, xKind(2, 4)))), "[][][]bool", api.Diag{})
	wantType(t, s, xList(1, xName(9, "", "U")), "[]?", wrong)
	wantType(t, s, xList(1, xList(2, xName(9, "", "U"))), "[][]?", wrong)
	wantType(t, s, xList(1, xList(2, xName(9, "d", "T"))), "[][]?", wrong)
	wantType(t, s, xList(1, xList(2, xName(9, "c", "T"))), "[][]?", api.Diag{})
	wantType(t, s, xList(1, xKind(0, 2)), "[]?", api.Diag{})
	wantType(t, s, xList(1, xKind(1, 2), xName(9, "", "U")), "[]int", api.Diag{})
	wantType(t, s, xList(1, xName(9, "", "U"), xKind(1, 2), xName(4, "", "V")), "[]?", wrong)
	wantType(t, s, xList(1, xList(2, xKind(3, 2), xList(5)), xKind(1, 2)), "[][]text", api.Diag{})
	wantType(t, s, api.TypeX{Kind: 5, Pkg: "d", Name: "U", Args: []api.TypeX{xKind(1, 2)}}, "[]int", api.Diag{})
	wantType(t, s, api.TypeX{Kind: 5, Name: "P", Args: []api.TypeX{xName(-4, "", "Q")}}, "[]?", api.Diag{At: -4, Code: 10})
}

// P10.2: a name alone is a type parameter, or else a type of the own package.
func TestTypeOwn(t *testing.T) {
	wrong := api.Diag{At: 4, Code: 10}
	own, other := pack("a", "T", "(I)", "T", "B"), pack("b", "T", "U")
	both := api.Scope{W: []api.Iface{own, other}, Imports: []string{"b"}, Names: []string{"P", "T", "Q", "P", "T", ""}}
	rows := map[string]string{"P": "P'0", "T": "T'1", "Q": "Q'2", "": "'5", "I": "a.I", "B": "a.B"}
	for name, want := range rows {
		wantType(t, both, xName(4, "", name), want, api.Diag{})
	}
	for _, name := range []string{"U", "p", "t", "b", "a", "P ", "PT", "int", "\x00"} {
		wantType(t, both, xName(4, "", name), "?", wrong)
	}
	bare := api.Scope{W: both.W, Imports: both.Imports}
	wantType(t, bare, xName(4, "", "T"), "a.T", api.Diag{})
	wantType(t, bare, xName(4, "", "P"), "?", wrong)
	wantType(t, bare, xName(4, "", ""), "?", wrong)
	for _, s := range []api.Scope{{}, {Imports: []string{"", "a", "b"}}, {W: []api.Iface{}}, {W: []api.Iface{{}, own}, Imports: []string{"a"}}, {W: []api.Iface{other, own}}, {Bounds: []api.Type{named("a", "I")}}} {
		wantType(t, s, xName(4, "", "I"), "?", wrong)
		wantType(t, s, xName(0, "", "I"), "?", api.Diag{At: 0, Code: 10})
		s.Names = []string{"J", "I"}
		wantType(t, s, xName(4, "", "I"), "I'1", api.Diag{})
		wantType(t, s, xName(4, "", "J"), "J'0", api.Diag{})
	}
	wantType(t, api.Scope{W: []api.Iface{pack("", "T", "")}}, xName(4, "", "T"), ".T", api.Diag{})
	wantType(t, api.Scope{W: []api.Iface{pack("", "T", "")}}, xName(4, "", ""), ".", api.Diag{})
	wantType(t, api.Scope{W: []api.Iface{pack("a b", "T\x00")}}, xName(4, "", "T\x00"), "a b.T\x00", api.Diag{})
	vars := api.Scope{W: []api.Iface{{Pkg: "a", Funcs: []api.FuncDecl{{Name: "f"}}}}, Vars: []api.Var{{Name: "f"}}}
	wantType(t, vars, xName(4, "", "f"), "?", wrong)
	used := xName(4, "", "T")
	used.Args = []api.TypeX{xName(1, "", "U")}
	wantType(t, bare, used, "a.T", api.Diag{})
}

// P10.2: a name with a package, which is visible or not, and available or not.
func TestTypeOthers(t *testing.T) {
	wrong := api.Diag{At: 4, Code: 10}
	own, b, c := pack("a", "T", "(I)"), pack("b", "T", "(I)"), pack("c", "X")
	again := pack("b", "U", "T")
	s := api.Scope{W: []api.Iface{own, c, b, again, pack("", "T")}, Imports: []string{"a", "d", "b", "b", ""}, Names: []string{"T", "U", "P"}}
	for _, row := range []struct {
		pack, name, want string
		wrong            api.Diag
	}{
		{"b", "T", "b.T", api.Diag{}}, {"b", "I", "b.I", api.Diag{}}, // visible and available
		{"b", "P", "?", wrong}, {"b", "X", "?", wrong}, {"b", "", "?", wrong}, {"b", "t", "?", wrong},
		{"b", "U", "?", wrong},                                                               // the first one of the name is meant
		{"d", "T", "?", api.Diag{}}, {"d", "U", "?", api.Diag{}}, {"d", "", "?", api.Diag{}}, // visible alone
		{"c", "X", "?", wrong}, {"c", "T", "?", wrong}, // available alone
		{"e", "T", "?", wrong}, {"e", "X", "?", wrong}, {"B", "T", "?", wrong}, {"b.", "T", "?", wrong}, // neither
		{"a", "T", "?", api.Diag{}}, {"a", "I", "?", api.Diag{}}, {"a", "U", "?", api.Diag{}}, // the own one
	} {
		wantType(t, s, xName(4, row.pack, row.name), row.want, row.wrong)
		wantType(t, s, xList(1, xName(4, row.pack, row.name)), "[]"+row.want, row.wrong)
	}
	for _, name := range []string{"T", "I", "U"} {
		wantType(t, api.Scope{W: s.W}, xName(4, "b", name), "?", wrong)
		wantType(t, api.Scope{W: s.W}, xName(4, "a", name), "?", wrong)
		wantType(t, api.Scope{}, xName(4, "b", name), "?", wrong)
		wantType(t, api.Scope{Imports: s.Imports}, xName(4, "b", name), "?", api.Diag{})
		wantType(t, api.Scope{Imports: s.Imports, W: []api.Iface{b}}, xName(4, "b", name), "?", api.Diag{})
	}
	twice := api.Scope{W: []api.Iface{b, again, b}, Imports: []string{"b"}}
	wantType(t, twice, xName(4, "b", "U"), "b.U", api.Diag{})
	wantType(t, twice, xName(4, "b", "T"), "b.T", api.Diag{})
	wantType(t, twice, xName(4, "b", "I"), "?", wrong)
	wantType(t, twice, xName(4, "", "I"), "b.I", api.Diag{})
	wantType(t, twice, xName(4, "", "U"), "?", wrong)
	empty := api.Scope{W: []api.Iface{own, {Pkg: "b"}, b}, Imports: []string{"b"}}
	wantType(t, empty, xName(4, "b", "T"), "?", wrong)
}

// P10.2: as many levels as the document's bound names.
func TestTypeDeep(t *testing.T) {
	s := api.Scope{W: []api.Iface{pack("a", "T")}}
	for name, wrong := range map[string]api.Diag{"T": {}, "U": {At: 9, Code: 10}} {
		x := xName(9, "", name)
		for range 1<<16 - 1 {
			x = xList(1, x)
		}
		got, d := sig.Type(s, x)
		for range 1<<16 - 1 {
			if got.Kind != 5 || len(got.Args) != 1 {
				t.Fatalf("%d, of %d", got.Kind, len(got.Args))
			}
			got = got.Args[0]
		}
		if d != wrong || (got.Kind == 4) != (wrong.Code == 0) {
			t.Errorf("%v, %v", got, d)
		}
		f := api.File{Decls: []api.Decl{{Kind: 1, Name: "T", Fields: []api.Param{{T: x}}}}}
		if p, l := sig.Build(f, nil); len(p.Types[0].Fields) != 1 || (len(l) == 0) != (wrong.Code == 0) {
			t.Errorf("%v", l)
		}
	}
}

// P10.3: each Kind of declaration, and unknown ones, of which the names do not count.
func TestKinds(t *testing.T) {
	body := []api.Stmt{{Kind: api.SReturn}}
	fields := []api.Param{{Name: "x", At: 5, T: xKind(1, 6)}}
	methods := []api.MethodX{{Name: "m", At: 7, Params: []api.TypeX{xKind(2, 8)}, Has: true, Result: xKind(3, 9)}}
	d := api.Decl{Name: "T", At: 3, End: 4, Fields: fields, Methods: methods, Has: true, Result: xKind(2, 11), Body: body, Bounds: []api.Param{{Name: "P", At: 12, T: xName(13, "", "U")}}, Recv: api.Param{Name: "t", At: 14, T: xName(15, "", "T")}}
	of := func(kind int, method bool) api.Decl {
		x := d
		x.Kind, x.Method = kind, method
		return x
	}
	file := func(l ...api.Decl) api.File { return api.File{Name: "a", At: 1, Decls: l} }
	wantFile(t, file(of(1, false)), "a: struct T{x int;}")
	wantFile(t, file(of(1, true)), "a: struct T{x int;}")
	wantFile(t, file(of(2, false)), "a: interface T{m(bool)text;}")
	wantFile(t, file(of(2, true)), "a: interface T{m(bool)text;}")
	wantFile(t, file(of(3, false)), "a: func T[?](int)bool", api.Diag{At: 13, Code: 10})
	wantFile(t, file(of(3, true)), "a:", api.Diag{At: 15, Code: 17})
	wantFile(t, file(of(3, true), of(1, true)), "a: struct T{x int;T(int)bool;}", api.Diag{At: 12, Code: 15})
	for _, kind := range append(unknown(), 4, 5) {
		for _, method := range []bool{false, true} {
			wantFile(t, file(of(kind, method)), "a:")
			wantFile(t, file(of(kind, method), of(kind, method), of(1, false), of(kind, method)), "a: struct T{x int;}")
			wantFile(t, file(of(kind, method), of(3, false)), "a: func T[?](int)bool", api.Diag{At: 13, Code: 10})
			wantFile(t, file(of(kind, method), of(2, false)), "a: interface T{m(bool)text;}")
			wantFile(t, file(of(kind, method), of(3, true)), "a:", api.Diag{At: 15, Code: 17})
		}
	}
	wantFile(t, api.File{}, ":")
	wantFile(t, api.File{Name: "x y", Decls: []api.Decl{{Kind: 1}, {Kind: 3, At: 2}, {Kind: 3, Method: true, At: 8, Fields: fields}, {Kind: 2, At: -1}}}, "x y: struct {}", api.Diag{At: -1, Code: 9}, api.Diag{At: 0, Code: 17}, api.Diag{At: 2, Code: 9})
}

// P10.3: what is resolved may stand ahead, behind, in itself, and in other packages.
func TestScope(t *testing.T) {
	b := pack("b", "S", "(I)")
	wantBuild(t, "package a;", "a:")
	wantBuild(t, "package a;import b;import b;import a;", "a:", b)
	wantBuild(t, "package a;type T struct{x int;y bool;z text;u U;v []U;}type U struct{}", "a: struct T{x int;y bool;z text;u a.U;v []a.U;} struct U{}")
	wantBuild(t, "package a;func f(u U)I{}type I interface{m(I,U,[]int)I;}type U struct{i I;}", "a: interface I{m(a.I,a.U,[]int)a.I;} struct U{i a.I;} func f(a.U)a.I")
	wantBuild(t, "package a;import b;import c;type T struct{s b.S;c c.S;d @10@d.S;u @10@b.U;i []b.I;}func(t T)m(i b.I,u @10@b.U)c.X{}func f(s b.S,i [][]@10@I,j @10@a.T)b.I{}", "a: struct T{s b.S;c ?;d ?;u ?;i []b.I;m(b.I,?)?;} func f(b.S,[][]?,?)b.I", b)
	wantBuild(t, "package a;import a;type T struct{t a.T;}func f(t a.T,u a.U)[]a.T{}", "a: struct T{t ?;} func f(?,?)[]?")
	wantBuild(t, "package a;import b;func f(x b.T,y @10@b.S){}", "a: func f(b.T,?)none", pack("b", "T"), b)
	wantBuild(t, "package a;import b;func f(x @10@b.f,y @10@f,z @10@b){}func g(x @10@g,y @10@x){}", "a: func f(?,?,?)none func g(?,?)none", api.Iface{Pkg: "b", Funcs: []api.FuncDecl{{Name: "f"}}})
	wantBuild(t, "package a;type I interface{m(@10@m,@10@U)@10@I1;}func(t T)m(t T,P @10@P)[]@10@P{}type T struct{}", "a: interface I{m(?,?)?;} struct T{m(a.T,?)[]?;}")
	wantBuild(t, "package a;func f[P I,Q I](p P,q []Q,r @10@R)[]P{}func g(p @10@P)@10@Q{}type I interface{}func h[Q I](q Q)Q{}", "a: interface I{} func f[a.I,a.I](P'0,[]Q'1,?)[]P'0 func g(?)? func h[a.I](Q'0)Q'0")
	wantBuild(t, "package a;type T struct{}func f[T I](t T,u []T)T{}type I interface{}func(t T)m(u T)T{}func g(t T){}", "a: struct T{m(a.T)a.T;} interface I{} func f[a.I](T'0,[]T'0)T'0 func g(a.T)none")
}

// P10.3: types and functions that have one name.
func TestTwiceDeclared(t *testing.T) {
	wantBuild(t, "package a;type T struct{x int;}type @9@T struct{y U;}", "a: struct T{x int;}")
	wantBuild(t, "package a;type T interface{m();}type @9@T struct{x U;}type @9@T interface{n(U);}", "a: interface T{m()none;}")
	wantBuild(t, "package a;type T struct{t []T;}type @9@T interface{n(U,U)U;n();}", "a: struct T{t []a.T;}")
	wantBuild(t, "package a;func f(x int){}func @9@f[P U](x U,x U)U{}func @9@f(){}func g(){}", "a: func f(int)none func g()none")
	wantBuild(t, "package a;type T struct{}func @9@T(x U,x U)U{}type @9@T struct{}", "a: struct T{}")
	wantBuild(t, "package a;type T interface{}func @9@T(){}", "a: interface T{}")
	wantBuild(t, "package a;func T(){}type @9@T struct{x U;x U;}func @9@T(){}", "a: func T()none")
	wantBuild(t, "package a;func T(){}type @9@T interface{m(U);}func f(x @10@T){}", "a: func T()none func f(?)none")
	wantBuild(t, "package a;type T struct{}type U struct{}func f(){}type @9@U struct{}func @9@f(){}type @9@T struct{}", "a: struct T{} struct U{} func f()none")
	wantBuild(t, "package a;type T struct{}func(t T)f(){}func f(){}func(t T)T(){}type m struct{}func(t T)m(){}func a(){}", "a: struct T{f()none;T()none;m()none;} struct m{} func f()none func a()none")
}

// P10.3: fields, and methods of an interface, that have one name; of what is omitted nothing else is told.
func TestTwiceHeld(t *testing.T) {
	wantBuild(t, "package a;type T struct{x int;@9@x U;y bool;@9@x []T;@9@y T;z text;}", "a: struct T{x int;y bool;z text;}")
	wantBuild(t, "package a;type T struct{x @10@U;@9@x int;}type U1 struct{x int;T int;}", "a: struct T{x ?;} struct U1{x int;T int;}")
	wantBuild(t, "package a;type I interface{m();@9@m(U)V;n(int)bool;@9@n();@9@m();o();}type J interface{m();}", "a: interface I{m()none;n(int)bool;o()none;} interface J{m()none;}")
	wantBuild(t, "package a;type I interface{m(@10@U)@10@V;@9@m(int);I();}", "a: interface I{m(?)?;I()none;}")
}

// P10.3: parameters that have one name count nevertheless.
func TestTwiceParams(t *testing.T) {
	wantBuild(t, "package a;func f(x int,@9@x bool,y text,@9@x @10@U,@9@y []int){}func g(x int){}", "a: func f(int,bool,text,?,[]int)none func g(int)none")
	wantBuild(t, "package a;type T struct{x int;}func(t T)m(x int,t bool,@9@x T,@9@t text)T{}func(t T)n(x int){}", "a: struct T{x int;m(int,bool,a.T,text)a.T;n(int)none;}")
	wantBuild(t, "package a;func f[P I](P int,@9@P P,f P)P{}type I interface{}", "a: interface I{} func f[a.I](int,P'0,P'0)P'0")
}

// P10.3: methods of a struct that have one name, or that of a field; methods ahead of the struct and behind it.
func TestTwiceMethods(t *testing.T) {
	wantBuild(t, "package a;type T struct{}func(t T)m(){}func(t T)@9@m[P U](x U,x int)U{}func(t T)@9@m(){}func(t T)n(){}", "a: struct T{m()none;n()none;}")
	wantBuild(t, "package a;type T struct{x int;}func(t T)@9@x[P U](x U){}func(t T)y(){}", "a: struct T{x int;y()none;}")
	wantBuild(t, "package a;func(t T)m(){}func(t T)@9@x(y U){}type T struct{x int;y int;}func(t T)@9@m(y U){}func(t T)@9@y(){}func(t T)n(){}", "a: struct T{x int;y int;m()none;n()none;}")
	wantBuild(t, "package a;func(t T)n(){}func(t T)m(){}func(t T)@9@n(){}type T struct{}", "a: struct T{n()none;m()none;}")
	wantBuild(t, "package a;type T struct{x int;@9@x int;}func(t T)@9@x(){}", "a: struct T{x int;}")
	wantBuild(t, "package a;type T struct{m int;}type U struct{}func(t U)m(){}func(t T)n(){}func(t U)n(){}func(t T)@9@m(){}func(t U)@9@n(){}", "a: struct T{m int;n()none;} struct U{m()none;n()none;}")
	wantBuild(t, "package a;func(t U)m(){}func(t T)m(){}type T struct{}func(t T)o(){}type U struct{}func(t U)n(){}func(u T)p(){}", "a: struct T{m()none;o()none;p()none;} struct U{m()none;n()none;}")
	wantBuild(t, "package a;func(t @17@U)m(){}func(t T)m(){}func(t @17@I)m(){}type T struct{}type I interface{m();}", "a: struct T{m()none;} interface I{m()none;}")
}

// bounded is a file with a function of the bounds, each with a type of the name and with an At of its own.
func bounded(names []string, bound string) (api.File, []api.Param) {
	var bounds, params []api.Param
	for i, name := range names {
		bounds = append(bounds, api.Param{Name: name, At: 100 + 10*i, T: xName(101+10*i, "", bound)})
		params = append(params, api.Param{Name: "x" + strconv.Itoa(i), At: 1000 + 10*i, T: xName(1001+10*i, "", "P"+strconv.Itoa(i))})
	}
	return api.File{Name: "a", Decls: []api.Decl{{Kind: 2, Name: "I"}, {Kind: 3, Name: "f", Bounds: bounds, Fields: params}}}, bounds
}

// P10.3: as many bounds as may be, and more; with names that stand twice among the first 16 and behind them.
func TestBoundCounts(t *testing.T) {
	for _, n := range []int{0, 1, 2, 15, 16, 17, 18, 19, 100} {
		for twice := range n {
			for again := twice; again < n; again++ {
				if twice > 18 || again > 19 && again < n-1 {
					continue
				}
				var names []string
				for i := range n {
					names = append(names, "P"+strconv.Itoa(i))
				}
				names[again] = names[twice]
				wantCount(t, names, twice, again)
			}
		}
	}
	wantFile(t, api.File{Decls: []api.Decl{{Kind: 3, Name: "f"}}}, ": func f()none")
	same := slices.Repeat([]string{"P0"}, 18)
	f, bounds := bounded(same, "I")
	f.Decls[1].Fields = nil
	var wrong []api.Diag
	for _, p := range bounds[1:16] {
		wrong = append(wrong, api.Diag{At: p.At, Code: 9})
	}
	wantFile(t, f, "a: interface I{} func f[a.I]()none", append(wrong, api.Diag{At: 260, Code: 12})...)
}

// wantCount tells names of which at most one stands twice, at these indices.
func wantCount(t *testing.T, names []string, twice, again int) {
	t.Helper()
	f, _ := bounded(names, "I")
	want := "a: interface I{} func f["
	var wrong []api.Diag
	bounds, params := []string{}, []string{}
	for i := range names {
		first := i < 16 && (i != again || twice == again)
		switch {
		case first:
			params = append(params, names[i]+"'"+strconv.Itoa(len(bounds)))
			bounds = append(bounds, "a.I")
		case i < 16:
			wrong = append(wrong, api.Diag{At: 100 + 10*i, Code: 9})
		case i == 16:
			wrong = append(wrong, api.Diag{At: 260, Code: 12})
		}
		if !first {
			params = append(params, "?")
			wrong = append(wrong, api.Diag{At: 1001 + 10*i, Code: 10})
		}
	}
	want += strings.Join(bounds, ",") + "](" + strings.Join(params, ",") + ")none"
	wantFile(t, f, want, modelSorted(wrong)...)
	// The types of the bounds that do not count are not looked at.
	f, _ = bounded(names, "U")
	f.Decls[1].Fields = nil
	got, l := against(t, f, nil)
	missing := 0
	for _, d := range l {
		if d.Code == 10 {
			missing++
		}
	}
	if missing != len(bounds) || len(got.Funcs[0].Bounds) != len(bounds) || spellTypes(got.Funcs[0].Bounds) != strings.Join(slices.Repeat([]string{"?"}, len(bounds)), ",") {
		t.Fatalf("%v: %s, %v", names, spell(got), l)
	}
}

// P10.3: what is a bound and what is none.
func TestBoundKinds(t *testing.T) {
	b, again := pack("b", "S", "(I)", "(S)", "I"), pack("b", "(J)")
	const types = "type S struct{}type I interface{m();}func g(){}type P1 interface{}"
	for bound, want := range map[string]string{
		"I": "a.I", "@15@S": "?", "@15@int": "?", "@15@bool": "?", "@15@text": "?",
		"@15@[]I": "?", "@15@[]S": "?", "@15@[]int": "?", "@15@[][]I": "?", "@15@[]@10@U": "?", "@15@[][]@10@b.U": "?", "@15@[]c.I": "?",
		"@10@P": "?", "@10@Q": "?", "@15@[]@10@P": "?", "P1": "a.P1",
		"@10@U": "?", "@10@g": "?", "@10@f": "?", "@10@x": "?", "@10@b": "?",
		"b.I": "b.I", "@15@b.S": "?", "@10@b.U": "?", "@10@b.J": "?", "@15@[]b.I": "?",
		"c.I": "?", "c.U": "?", "@10@d.I": "?", "@10@a.I": "?",
	} {
		text := "package a;import b;import c;func f[Q I,P " + bound + ",R I](x P,y []Q,z R){}" + types
		wantBuild(t, text, "a: struct S{} interface I{m()none;} interface P1{} func f[a.I,"+want+",a.I](P'1,[]Q'0,R'2)none func g()none", b, again)
	}
	wantBuild(t, "package a;type P interface{}func f[P P](p P)P{}", "a: interface P{} func f[a.P](P'0)P'0")
	wantBuild(t, "package a;type P struct{}func f[P @15@P,Q @15@P](p P,q Q){}", "a: struct P{} func f[?,?](P'0,Q'1)none")
	wantBuild(t, "package a;type I interface{}func f[P I,@9@P U,Q I,@9@Q S,@9@P []U](x P,y Q)Q{}", "a: interface I{} func f[a.I,a.I](P'0,Q'1)Q'1")
	wantBuild(t, "package a;type I interface{}type @9@I struct{}type S struct{}type @9@S interface{}func f[P I,Q @15@S](){}", "a: interface I{} struct S{} func f[a.I,?]()none")
	wantBuild(t, "package a;import a;func f[P a.I](p P){}type I interface{}", "a: interface I{} func f[?](P'0)none")
	own := pack("a", "S", "(I)", "(J)", "T", "(K)", "L")
	for bound, want := range map[string]string{
		"a.I": "a.I", "@15@a.S": "?", "a.J": "a.J", "@15@a.T": "?", "@15@a.K": "?", "a.L": "a.L", "@10@a.M": "?", "@10@a.N": "?", "@15@[]a.I": "?", "@10@J": "?", "M": "a.M", "@15@N": "?",
	} {
		const types = "type I interface{}type S struct{}type K struct{}type L interface{}type M interface{}type N struct{}"
		wantBuild(t, "package a;import a;"+types+"func f[P "+bound+"](){}", "a: interface I{} struct S{} struct K{} interface L{} interface M{} struct N{} func f["+want+"]()none", pack("b", "I"), own, pack("a", "(T)", "(M)"))
	}
	for _, x := range []api.TypeX{{Kind: 5, At: 9}, {Kind: 2, At: 9, Name: "I"}, {Kind: 5, At: 9, Name: "I"}} {
		wantFile(t, api.File{Name: "a", Decls: []api.Decl{{Kind: 2, Name: "I"}, {Kind: 3, Name: "f", Bounds: []api.Param{{Name: "P", At: 7, T: x}}}}}, "a: interface I{} func f[?]()none", api.Diag{At: 9, Code: 15})
	}
	for _, kind := range unknown() {
		wantFile(t, api.File{Name: "a", Decls: []api.Decl{{Kind: 2, Name: "I"}, {Kind: 3, Name: "f", Bounds: []api.Param{{Name: "P", At: 7, T: api.TypeX{Kind: kind, At: 9, Name: "I"}}}}}}, "a: interface I{} func f[?]()none")
	}
	// A package without a name, with an interface without one: only a name means it.
	for kind, want := range []string{"", "?", "?", "?", ".", "?"} {
		var wrong []api.Diag
		if want == "?" {
			wrong = []api.Diag{{At: 9, Code: 15}}
		}
		if kind > 0 {
			wantFile(t, api.File{Decls: []api.Decl{{Kind: 2}, {Kind: 3, Name: "f", Bounds: []api.Param{{Name: "P", T: xKind(kind, 9)}}}}}, ": interface {} func f["+want+"]()none", wrong...)
		}
	}
}

// P10.3: results that there are, and that there are not.
func TestResults(t *testing.T) {
	wantBuild(t, "package a;type I interface{a();b()int;c()I;d()@10@U;e(int)[]T;}type T struct{}func(t T)a(){}func(t T)b()bool{}func(t T)c()@10@U{}func(t T)d()[]@10@U{}func f(){}func g()T{}func h()@10@V{}func i()text{}", "a: interface I{a()none;b()int;c()a.I;d()?;e(int)[]a.T;} struct T{a()none;b()bool;c()?;d()[]?;} func f()none func g()a.T func h()? func i()text")
	for _, has := range []bool{false, true} {
		for _, x := range []api.TypeX{{}, xKind(1, 3), xName(4, "", "U"), xList(5, xName(6, "", "U")), xKind(-1, 9)} {
			f := api.File{Name: "a", Decls: []api.Decl{
				{Kind: 1, Name: "T"},
				{Kind: 2, Name: "I", Methods: []api.MethodX{{Name: "m", Has: has, Result: x}}},
				{Kind: 3, Name: "f", Has: has, Result: x},
				{Kind: 3, Name: "m", Has: has, Result: x, Method: true, Recv: api.Param{T: xName(1, "", "T")}},
			}}
			want, wrong := "none", []api.Diag(nil)
			if has {
				r, d := modelType(api.Scope{}, x)
				want = spellType(r)
				if d.Code != 0 {
					wrong = append(wrong, d)
				}
			}
			wantFile(t, f, "a: struct T{m()"+want+";} interface I{m()"+want+";} func f()"+want, wrong...)
		}
	}
}

// P10.3: receivers of each Kind; of a method that is ignored nothing else is told.
func TestReceivers(t *testing.T) {
	const types = "package a;import b;import c;type S struct{}type I interface{}func f(){}"
	const shown = "a: struct S{} interface I{} func f()none"
	for _, recv := range []string{"I", "int", "bool", "text", "[]S", "[]int", "[][]S", "b.S", "b.I", "b.U", "c.S", "d.S", "a.S", "U", "f", "t", "m", "s", "b"} {
		wantBuild(t, types+"func(t @17@"+recv+")m[P U,P U](x U,x U)U{}", shown, pack("b", "S", "(I)", "U"))
	}
	wantBuild(t, types+"func(t S)m(x S)S{}", "a: struct S{m(a.S)a.S;} interface I{} func f()none")
	wantBuild(t, "package a;import a;type S struct{}func(t @17@a.S)m(){}", "a: struct S{}", pack("a", "S"))
	wantBuild(t, "package a;type T interface{}type @9@T struct{}func(t @17@T)m(){}", "a: interface T{}")
	wantBuild(t, "package a;func T(){}type @9@T struct{}func(t @17@T)m(){}", "a: func T()none")
	wantBuild(t, "package a;func(t @17@T)m(){}func T(){}type @9@T struct{}", "a: func T()none")
	wantBuild(t, "package a;type T struct{}type @9@T struct{x int;}func(t T)x(){}", "a: struct T{x()none;}")
	wantBuild(t, "package a;type T struct{}type @9@T interface{}func(t T)m(){}func @9@T(){}", "a: struct T{m()none;}")
	wantBuild(t, "package a;type S struct{}func f[S I](){}type I interface{}func(t S)m(){}", "a: struct S{m()none;} interface I{} func f[a.I]()none")
	for _, x := range []api.TypeX{{}, {Kind: 1}, {Kind: 5}, {Kind: 5, Args: []api.TypeX{xName(2, "", "S")}}, {Kind: 4, Pkg: "a"}, {Kind: 4, Pkg: "b"}, {Kind: 6}, {Kind: -4}, {Kind: 3}, {Kind: 2}, {Kind: math.MinInt}} {
		x.At, x.Name = 9, "S"
		wantFile(t, api.File{Name: "a", Imports: []api.Import{{Name: "a"}, {Name: "b"}}, Decls: []api.Decl{{Kind: 1, Name: "S"}, {Kind: 3, Method: true, Name: "m", At: 7, Recv: api.Param{Name: "t", At: 8, T: x}}}}, "a: struct S{}", api.Diag{At: 9, Code: 17})
	}
	used := xName(9, "", "S")
	used.Args = []api.TypeX{{}}
	wantFile(t, api.File{Decls: []api.Decl{{Kind: 1, Name: "S"}, {Kind: 3, Method: true, Name: "m", Recv: api.Param{T: used}}}}, ": struct S{m()none;}")
}

// P10.3: methods have no bounds.
func TestMethodBounds(t *testing.T) {
	wantBuild(t, "package a;type S struct{}type I interface{}func(t S)m[@15@P I](x @10@P,y []@10@P)@10@P{}", "a: struct S{m(?,[]?)?;} interface I{}")
	wantBuild(t, "package a;type S struct{}func(t S)m[@15@P U,P U,Q []V](x int,@9@x @10@Q){}func(t S)@9@m[P U](){}", "a: struct S{m(int,?)none;}")
	wantBuild(t, "package a;type S struct{}type P interface{}func(t S)m[@15@P P,S P](x P,s S)P{}", "a: struct S{m(a.P,a.S)a.P;} interface P{}")
	for _, n := range []int{1, 2, 15, 16, 17, 18, 40} {
		f, bounds := bounded(slices.Repeat([]string{"P"}, n), "I")
		m := api.Decl{Kind: 3, Method: true, Name: "m", At: 2, Recv: api.Param{T: xName(3, "", "S")}, Bounds: bounds}
		f.Decls = []api.Decl{{Kind: 1, Name: "S"}, m}
		wantFile(t, f, "a: struct S{m()none;}", api.Diag{At: 100, Code: 15})
	}
}

// P10.4: structs that contain themselves, and such that do not.
func TestEndless(t *testing.T) {
	b := api.Iface{Pkg: "b", Types: []api.TypeDecl{{Name: "T", Struct: true, Fields: []api.Field{{Name: "t", T: named("a", "T")}, {Name: "b", T: named("b", "T")}}}}}
	for text, want := range map[string]string{
		"type @18@T struct{x int;t T;y int;}":                                                  "struct T{x int;t a.T;y int;}",
		"type @18@T struct{t T;u T;}":                                                          "struct T{t a.T;u a.T;}",
		"type @18@T struct{u U;}type @18@U struct{t T;}":                                       "struct T{u a.U;} struct U{t a.T;}",
		"type @18@T struct{u U;}type @18@U struct{v V;}type @18@V struct{x int;t T;}":          "struct T{u a.U;} struct U{v a.V;} struct V{x int;t a.T;}",
		"type @18@V struct{t T;}type @18@T struct{u U;}type L struct{}type @18@U struct{v V;}": "struct V{t a.T;} struct T{u a.U;} struct L{} struct U{v a.V;}",
		"type T struct{t []T;}":                                                                "struct T{t []a.T;}",
		"type T struct{u U;}type U struct{t []T;}":                                             "struct T{u a.U;} struct U{t []a.T;}",
		"type T struct{t [][]T;u []U;}type @18@U struct{u U;}":                                 "struct T{t [][]a.T;u []a.U;} struct U{u a.U;}",
		"type T struct{t b.T;}":                                                                "struct T{t b.T;}",
		"type T struct{t c.T;u a.T;}":                                                          "struct T{t ?;u ?;}",
		"type R struct{t T;}type @18@T struct{t T;}":                                           "struct R{t a.T;} struct T{t a.T;}",
		"type @18@T struct{t T;l L;}type L struct{x int;}":                                     "struct T{t a.T;l a.L;} struct L{x int;}",
		"type @18@A struct{a A;b B;}type B struct{c C;}type @18@C struct{c C;}":                "struct A{a a.A;b a.B;} struct B{c a.C;} struct C{c a.C;}",
		"type @18@A struct{b B;c C;}type @18@B struct{a A;}type @18@C struct{a A;}":            "struct A{b a.B;c a.C;} struct B{a a.A;} struct C{a a.A;}",
		"type A struct{b B;c C;}type B struct{d D;}type C struct{d D;}type D struct{}":         "struct A{b a.B;c a.C;} struct B{d a.D;} struct C{d a.D;} struct D{}",
		"type T struct{i I;}type I interface{m(T,I)T;}":                                        "struct T{i a.I;} interface I{m(a.T,a.I)a.T;}",
		"type T struct{}func(t T)m(u T)T{}func f(t T)T{}":                                      "struct T{m(a.T)a.T;} func f(a.T)a.T",
		"type T struct{x int;@9@x T;}":                                                         "struct T{x int;}",
		"type @18@T struct{x T;@9@x int;}":                                                     "struct T{x a.T;}",
		"type T struct{}type @9@T struct{t T;}":                                                "struct T{}",
		"type @18@T struct{t T;}type @9@T struct{}":                                            "struct T{t a.T;}",
		"type T interface{}type @9@T struct{t T;}type U struct{t T;}":                          "interface T{} struct U{t a.T;}",
		"func T(){}type @9@T struct{t T;}":                                                     "func T()none",
		"type T struct{T int;t []T;}":                                                          "struct T{T int;t []a.T;}",
	} {
		wantBuild(t, "package a;import a;import b;import c;"+text, "a: "+want, b)
	}
	own := pack("a", "T", "U", "(I)", "J", "(S)")
	for text, want := range map[string]string{
		"type @18@T struct{t a.T;}":                                "struct T{t a.T;}",
		"type U struct{}type @18@T struct{t U;u a.T;}":             "struct U{} struct T{t a.U;u a.T;}",
		"type @18@T struct{u a.U;}type @18@U struct{t a.T;}":       "struct T{u a.U;} struct U{t a.T;}",
		"type @18@T struct{u U;}type @18@U struct{t a.T;}":         "struct T{u a.U;} struct U{t a.T;}",
		"type @18@T struct{x U;t a.T;y T;}type U struct{t []a.T;}": "struct T{x a.U;t a.T;y a.T;} struct U{t []a.T;}",
		"type T struct{t []a.T;}":                                  "struct T{t []a.T;}",
		"type T struct{x int;@9@x a.T;}":                           "struct T{x int;}",
		"type T struct{u a.U;v b.T;}":                              "struct T{u a.U;v b.T;}",
		"type V struct{v @10@a.V;}":                                "struct V{v ?;}",
		"type T struct{i a.I;}type I interface{m(a.T)T;}":          "struct T{i a.I;} interface I{m(a.T)a.T;}",
		"type J interface{m();}type T struct{j a.J;}":              "interface J{m()none;} struct T{j a.J;}",
		"type @18@S struct{s a.S;}":                                "struct S{s a.S;}",
		"type T struct{}func(t @17@a.T)m(){}":                      "struct T{}",
		"type T struct{t T2;}type T2 struct{u a.U;}":               "struct T{t a.T2;} struct T2{u a.U;}",
	} {
		wantBuild(t, "package a;import a;import b;"+text, "a: "+want, b, own, pack("a", "V"))
	}
	// A struct without a name, in a package without one: only a name means it.
	for kind, want := range []string{"?", "int", "bool", "text", ".", "[]?"} {
		var wrong []api.Diag
		if kind == 4 {
			wrong = []api.Diag{{At: 5, Code: 18}}
		}
		wantFile(t, api.File{Decls: []api.Decl{{Kind: 1, At: 5, Fields: []api.Param{{Name: "x", T: xKind(kind, 9)}}}}}, ": struct {x "+want+";}", wrong...)
	}
	same := api.Decl{Kind: 1, At: 5, Fields: []api.Param{{T: xName(0, "", "T")}}}
	one, two := same, same
	one.Name, two.Name, two.Fields = "T", "U", []api.Param{{T: xName(0, "", "U")}}
	wantFile(t, api.File{Decls: []api.Decl{one, two}}, ": struct T{ .T;} struct U{ .U;}", api.Diag{At: 5, Code: 18})
}

// webbed is a file of structs, with a field for each way from one to another.
func webbed(n int, way func(from, to int) bool) api.File {
	f := api.File{Name: "a"}
	for from := range n {
		d := api.Decl{Kind: 1, Name: "T" + strconv.Itoa(from), At: from}
		for to := range n {
			if way(from, to) {
				d.Fields = append(d.Fields, api.Param{Name: "x" + strconv.Itoa(to), T: xName(0, "", "T"+strconv.Itoa(to))})
			}
		}
		f.Decls = append(f.Decls, d)
	}
	return f
}

// P10.4: all webs of up to three structs, each seventh one of four, and grown ones.
func TestWebs(t *testing.T) {
	for n := range 5 {
		for web := range 1 << (n * n) {
			if n == 4 && web%7 > 0 {
				continue
			}
			against(t, webbed(n, func(from, to int) bool { return web>>(from*n+to)&1 == 1 }), nil)
		}
	}
	d := dice(11)
	some, none := 0, 0
	for range 1500 {
		n := 2 + d.below(20)
		f := webbed(n, func(_, _ int) bool { return d.below(n*4) < 5 })
		shown, wrong := against(t, f, nil)
		if len(wrong) > 0 && len(wrong) < n {
			some++
		} else if len(wrong) == 0 {
			none++
		}
		// A text that names some of them by the package's own name, which it imports, means the same.
		f.Imports = []api.Import{{Name: "a"}}
		for i := range f.Decls {
			for k := range f.Decls[i].Fields {
				f.Decls[i].Fields[k].T.Pkg = d.of("", "a")
			}
		}
		if again, l := against(t, f, []api.Iface{shown}); spell(again) != spell(shown) || !slices.Equal(l, wrong) {
			t.Fatalf("%s: %s, %v; was %s, %v", told(f), spell(again), l, spell(shown), wrong)
		}
	}
	if some < 300 || none < 50 {
		t.Errorf("too few: %d with some, %d with none", some, none)
	}
}

// P10.3, P10.4: chains and rings, names that stand twice, and functions, that are many.
func TestMany(t *testing.T) {
	const n = 100000
	chain := api.File{Name: "a"}
	for i := range n {
		next := xName(0, "", "T"+strconv.Itoa(i+1))
		chain.Decls = append(chain.Decls, api.Decl{Kind: 1, Name: "T" + strconv.Itoa(i), At: i, Fields: []api.Param{{T: next}}})
	}
	last := &chain.Decls[n-1].Fields[0].T
	for name, first := range map[string]int{"U": n, "T0": 0, "T1": 1, "T77777": 77777, "T99999": n - 1} {
		*last = xName(0, "", name)
		for range 2 {
			p, wrong := sig.Build(chain, nil)
			if name == "U" {
				if len(wrong) != 1 || wrong[0].Code != 10 {
					t.Fatalf("%v", wrong)
				}
				wrong = nil
			}
			if len(p.Types) != n || len(wrong) != n-first {
				t.Fatalf("%s: %d types, %d errors", name, len(p.Types), len(wrong))
			}
			for _, d := range wrong {
				if d.Code != 18 {
					t.Fatalf("%s: %v", name, d)
				}
			}
			for i := range chain.Decls {
				// The other way round the first one is where the chain ends.
				chain.Decls[i].At = n - 1 - chain.Decls[i].At
			}
			slices.Reverse(chain.Decls)
		}
	}
	wide := api.File{Name: "a", Decls: []api.Decl{{Kind: 1, Name: "T"}}}
	recv := api.Param{T: xName(0, "", "T")}
	for i := range n {
		name := "m" + strconv.Itoa(i/2)
		wide.Decls[0].Fields = append(wide.Decls[0].Fields, api.Param{Name: "x" + strconv.Itoa(i/2), At: -1 - i, T: xKind(1, 0)})
		wide.Decls = append(wide.Decls, api.Decl{Kind: 3, Name: name, At: 2*i + 1}, api.Decl{Kind: 3, Name: name, At: 2*i + 2, Method: true, Recv: recv})
	}
	p, wrong := sig.Build(wide, nil)
	if len(wrong) != 3*n/2 || len(p.Funcs) != n/2 || len(p.Types[0].Methods) != n/2 || len(p.Types[0].Fields) != n/2 {
		t.Errorf("%d errors, %d functions, %d methods, %d fields", len(wrong), len(p.Funcs), len(p.Types[0].Methods), len(p.Types[0].Fields))
	}
}

// P10.3, P10.4: all packages of up to three declarations out of these.
func TestFew(t *testing.T) {
	texts := []string{
		"type T struct{}", "type T struct{x int;m T;}", "type T interface{m();}", "type U struct{t T;}", "type I interface{m(T)I;}",
		"func T(t T){}", "func f[T I](t T)U{}", "func m[P T,P I,Q U](p P,p T){}", "func U(){}",
		"func(t T)m(u U){}", "func(t T)x()T{}", "func(t U)m[T I](t T){}", "func(t I)m(){}", "func(t b.T)m(){}",
		"type B struct{b b.T;c B;}", "func g[P b.T,Q b.I,R B](r R,q Q)b.U{}",
	}
	imports := []api.Iface{pack("b", "T", "(I)"), pack("b", "(T)", "U")}
	clean := 0
	for i := range len(texts) * len(texts) * len(texts) {
		l := []string{"package a;import b;", texts[i%len(texts)], texts[i/len(texts)%len(texts)], texts[i/len(texts)/len(texts)]}
		for n := 1; n <= 4; n++ {
			if n < 4 && i >= len(texts) {
				continue
			}
			if _, wrong := against(t, parsed(t, strings.Join(l[:n], "")), imports); len(wrong) == 0 {
				clean++
			}
		}
	}
	if clean < 50 {
		t.Errorf("too few without errors: %d", clean)
	}
}

// dice are numbers in an order that a fixed rule shuffles.
type dice uint32

func (d *dice) below(n int) int {
	*d = *d*1664525 + 1013904223
	return int(uint64(*d>>8) * uint64(n) >> 24)
}

func (d *dice) of(l ...string) string { return l[d.below(len(l))] }

func (d *dice) typeX(levels int) api.TypeX {
	x := api.TypeX{Kind: []int{4, 4, 4, 4, 4, 5, 5, 1, 2, 3, 0, 6, -1}[d.below(13)], At: d.below(40) - 5, Name: d.of("T", "U", "I", "J", "P", "Q", "f", "")}
	if d.below(4) == 0 {
		x.Pkg = d.of("a", "b", "b", "c", "d")
	}
	if x.Kind == 5 || d.below(9) == 0 {
		for range d.below(3) * min(levels, 1) {
			x.Args = append(x.Args, d.typeX(levels-1))
		}
	}
	return x
}

// few makes a list of up to so many.
func few[T any](d *dice, most int, one func() T) []T {
	var l []T
	for range d.below(most + 1) {
		l = append(l, one())
	}
	return l
}

func (d *dice) param() api.Param {
	return api.Param{Name: d.of("x", "y", "z", "P", "Q", "R", "m"), At: d.below(60) - 5, T: d.typeX(3)}
}

func (d *dice) methodX() api.MethodX {
	return api.MethodX{Name: d.of("m", "n", "o", "x"), At: d.below(60), Params: few(d, 3, func() api.TypeX { return d.typeX(2) }), Has: d.below(2) == 0, Result: d.typeX(2)}
}

func (d *dice) decl() api.Decl {
	x := api.Decl{
		Kind: []int{1, 1, 1, 2, 2, 3, 3, 3, 3, 3, 0, 4}[d.below(12)], At: d.below(90), End: d.below(90), Name: d.of("T", "U", "V", "I", "J", "f", "g", "m", "x"),
		Method: d.below(2) == 0, Recv: d.param(), Fields: few(d, 4, d.param), Has: d.below(2) == 0, Result: d.typeX(2),
	}
	if x.Kind != 1 && d.below(2) == 0 {
		x.Bounds = few(d, 4, d.param)
		if d.below(3) == 0 {
			x.Bounds = append(x.Bounds, few(d, 19, d.param)...)
		}
		x.Methods = few(d, 4, d.methodX)
	}
	return x
}

func (d *dice) iface() api.Iface {
	return api.Iface{Pkg: d.of("a", "b", "b", "c", ""), Types: few(d, 4, func() api.TypeDecl {
		return api.TypeDecl{Name: d.of("T", "U", "I", "J"), Struct: d.below(2) == 0}
	})}
}

func (d *dice) file() api.File {
	return api.File{Name: "a", At: d.below(9), Decls: few(d, 9, d.decl), Imports: few(d, 3, func() api.Import {
		return api.Import{Name: d.of("a", "b", "c", "d", ""), At: d.below(9)}
	})}
}

// P10.2: grown scopes and types.
func TestGrownTypes(t *testing.T) {
	d := dice(1)
	met := map[string]int{}
	for range 30000 {
		text := func() string { return d.of("T", "U", "P", "Q", "R", "") }
		s := api.Scope{W: few(&d, 4, d.iface), Imports: few(&d, 3, func() string { return d.of("a", "b", "c", "d", "") })}
		if d.below(2) == 0 {
			s.Names = few(&d, 4, text)
		}
		x := d.typeX(3)
		want, wrong := modelType(s, x)
		wantType(t, s, x, spellType(want), wrong)
		met[strings.Trim(spellType(want), "[]0123456789'TUIJPQRf")]++
		met[strconv.Itoa(wrong.Code)]++
	}
	for _, key := range []string{"a.", "b.", "c.", ".", "", "?", "int", "10", "0"} {
		if met[key] < 100 {
			t.Errorf("too few of %q: %d", key, met[key])
		}
	}
}

// P10.3, P10.4: grown files.
func TestGrownFiles(t *testing.T) {
	d := dice(2)
	met := map[int]int{}
	for range 12000 {
		f, imports := d.file(), few(&d, 3, d.iface)
		p, wrong := against(t, f, imports)
		for _, w := range wrong {
			met[w.Code]++
		}
		for _, x := range p.Types {
			met[-1] += len(x.Methods) * len(x.Fields)
		}
		for _, f := range p.Funcs {
			for _, b := range f.Bounds {
				met[-2] += b.Kind
			}
		}
		once(t, p)
	}
	for _, key := range []int{9, 10, 12, 15, 17, 18, -1, -2} {
		if met[key] < 300 {
			t.Errorf("too few of %d: %d", key, met[key])
		}
	}
}

// P10.3, P10.4: grown files of packages that import their own names.
func TestGrownOwnNames(t *testing.T) {
	d := dice(13)
	met := map[int]int{}
	for range 8000 {
		f, imports := d.file(), few(&d, 2, d.iface)
		f.Imports = append(f.Imports, api.Import{Name: "a"})
		own := d.iface()
		own.Pkg = "a"
		imports = slices.Insert(imports, d.below(len(imports)+1), own)
		for i := range f.Decls {
			for k := range f.Decls[i].Fields {
				if x := &f.Decls[i].Fields[k].T; d.below(2) == 0 {
					*x = xName(x.At, "a", d.of("T", "U", "I", "J"))
				}
			}
			for k := range f.Decls[i].Bounds {
				if x := &f.Decls[i].Bounds[k].T; d.below(2) == 0 {
					*x = xName(x.At, "a", d.of("T", "U", "I", "J"))
				}
			}
		}
		p, wrong := against(t, f, imports)
		for _, w := range wrong {
			met[w.Code]++
		}
		for _, f := range p.Funcs {
			for _, b := range f.Bounds {
				met[-2] += b.Kind
			}
		}
	}
	for _, key := range []int{15, 18, -2} {
		if met[key] < 300 {
			t.Errorf("too few of %d: %d", key, met[key])
		}
	}
}

// once holds that no name occurs twice in what a package shows.
func once(t *testing.T, p api.Iface) {
	t.Helper()
	top := map[string]bool{}
	for _, f := range p.Funcs {
		if top[f.Name] {
			t.Fatalf("%s twice: %s", f.Name, spell(p))
		}
		top[f.Name] = true
	}
	for _, x := range p.Types {
		if top[x.Name] {
			t.Fatalf("%s twice: %s", x.Name, spell(p))
		}
		top[x.Name] = true
		held := map[string]bool{}
		for _, f := range x.Fields {
			if held[f.Name] {
				t.Fatalf("%s twice: %s", f.Name, spell(p))
			}
			held[f.Name] = true
		}
		for _, m := range x.Methods {
			if held[m.Name] {
				t.Fatalf("%s twice: %s", m.Name, spell(p))
			}
			held[m.Name] = true
		}
	}
}

// P10.5: no name occurs twice, however often texts declare it.
func TestOnce(t *testing.T) {
	words := []string{"T", "U", "m", "x"}
	var text strings.Builder
	text.WriteString("package a;")
	for range 2 {
		for _, a := range words {
			for _, b := range words {
				fmt.Fprintf(&text, "func(t %[1]s)%[2]s(%[2]s int,%[1]s int){}type %[1]s struct{%[2]s int;%[1]s int;%[2]s bool;}type %[2]s interface{%[1]s();%[2]s();%[1]s(int);}func %[1]s[%[2]s %[1]s,%[1]s %[2]s](){}func %[2]s(){}", a, b)
			}
		}
	}
	f := parsed(t, text.String())
	for first := range f.Decls {
		f.Decls = append(f.Decls[1:], f.Decls[0])
		p, wrong := against(t, f, nil)
		if once(t, p); len(p.Types)+len(p.Funcs) != len(words) || len(wrong) == 0 {
			t.Fatalf("%d: %s", first, spell(p))
		}
	}
}

// moved has other offsets all over.
func (d *dice) moved(x reflect.Value) {
	switch x.Kind() {
	case reflect.Struct:
		for i := range x.NumField() {
			if name := x.Type().Field(i).Name; name == "At" || name == "End" {
				x.Field(i).SetInt(int64(d.below(1000) - 100))
			} else {
				d.moved(x.Field(i))
			}
		}
	case reflect.Slice:
		for i := range x.Len() {
			d.moved(x.Index(i))
		}
	}
}

// P10.5: other bodies and other offsets leave the interface as it was.
func TestBodiesAndOffsets(t *testing.T) {
	d := dice(4)
	for range 2000 {
		f, imports := d.file(), few(&d, 3, d.iface)
		want, _ := sig.Build(f, imports)
		g := copied(f)
		d.moved(reflect.ValueOf(&g).Elem())
		for i := range g.Decls {
			g.Decls[i].Body = few(&d, 3, func() api.Stmt {
				return api.Stmt{Kind: d.below(9), Name: d.of("T", "f", "x"), X: api.Expr{Kind: d.below(12), T: d.typeX(1), Name: d.of("T", "P")}}
			})
		}
		if got, _ := against(t, g, imports); spell(got) != spell(want) {
			t.Fatalf("%s: %s; was %s", told(g), spell(got), spell(want))
		}
	}
	const text = "package a;import b;type T struct{x int;t b.T;}func(t T)m(x T)int{BODY}func f[P I](p P,x U)P{BODY}type I interface{m();}func T(){BODY}"
	want := "a: struct T{x int;t b.T;m(a.T)int;} interface I{m()none;} func f[a.I](P'0,?)P'0"
	for _, body := range []string{"", "return 1;", "let T=1;let U=2;x=new T{1};", "for true{if x{f();}else{return y.z;}}", "let f=new []U{1,2};T();"} {
		plain := strings.ReplaceAll(text, "BODY", body)
		spaced := strings.NewReplacer(";", " ;\n// type U struct{}\n", "{", "\t{ ", "(", " ( ", ",", "\r\n, ").Replace(plain)
		for _, s := range []string{plain, spaced} {
			p, wrong := against(t, parsed(t, s), []api.Iface{pack("b", "T")})
			if spell(p) != want || len(wrong) != 2 || s[wrong[0].At] != 'U' || s[wrong[1].At] != 'T' {
				t.Fatalf("%s: %s, %v", s, spell(p), wrong)
			}
		}
	}
}

// sound is a package's declarations without errors.
func (d *dice) sound() []string {
	var texts []string
	types := []string{"int", "bool", "text", "b.S", "b.I", "c.X"}
	asks := []string{"b.I", "c.X"}
	n := 1 + d.below(7)
	for i := range n {
		types = append(types, "I"+strconv.Itoa(i))
		asks = append(asks, "I"+strconv.Itoa(i))
	}
	typed := func(more ...string) string {
		return strings.Repeat("[]", d.below(3)) + d.of(append(more, types...)...)
	}
	result := func(more ...string) string { return d.of("", typed(more...)) }
	for i := range n {
		inner := []string{"[]T" + strconv.Itoa(d.below(n)), "int"}
		if i > 0 {
			inner = append(inner, "T"+strconv.Itoa(d.below(i)), "T"+strconv.Itoa(i-1))
		}
		fields, methods, bounds, params := "", "", []string{}, []string{}
		for k := range d.below(4) {
			name := strconv.Itoa(k)
			fields += "x" + name + " " + typed(inner...) + ";"
			methods += "m" + name + "(" + strings.Join([]string{typed("T0"), typed("T0")}[:d.below(3)], ",") + ")" + result("T0") + ";"
			bounds = append(bounds, "P"+name+" "+d.of(asks...))
			params = append(params, "x"+name+" "+typed("P0", "P"+name))
			texts = append(texts, fmt.Sprintf("func(t T%d)m%d(t %s,x T%d)%s{}", i, k, typed(), i, result("T0")))
		}
		texts = append(texts, fmt.Sprintf("type T%d struct{%s}", i, fields), fmt.Sprintf("type I%d interface{%s}", i, methods))
		if len(bounds) > 0 {
			texts = append(texts, fmt.Sprintf("func f%d[%s](%s)%s{}", i, strings.Join(bounds, ","), strings.Join(params, ","), result("P0")))
		}
		texts = append(texts, fmt.Sprintf("func g%d(t T%d){}", i, i))
	}
	return texts
}

// ordered has its types, its functions and each struct's methods in the order of their names.
func ordered(p api.Iface) api.Iface {
	p = copied(p)
	slices.SortFunc(p.Types, func(a, b api.TypeDecl) int { return strings.Compare(a.Name, b.Name) })
	slices.SortFunc(p.Funcs, func(a, b api.FuncDecl) int { return strings.Compare(a.Name, b.Name) })
	for _, t := range p.Types {
		if t.Struct {
			slices.SortFunc(t.Methods, func(a, b api.Method) int { return strings.Compare(a.Name, b.Name) })
		}
	}
	return p
}

// P10.5: without errors the same declarations in another order yield the same interface in another order.
func TestOrder(t *testing.T) {
	d := dice(6)
	imports := []api.Iface{pack("b", "S", "(I)")}
	others := 0
	for range 300 {
		texts := d.sound()
		want := api.Iface{}
		for turn := range 6 {
			f := parsed(t, "package a;import b;import c;"+strings.Join(texts, ""))
			p, wrong := against(t, f, imports)
			if len(wrong) > 0 {
				t.Fatalf("%v: %v", texts, wrong)
			}
			names := []string{}
			for _, x := range f.Decls {
				if !x.Method {
					names = append(names, x.Name)
				}
			}
			inOrder(t, p, names)
			if turn == 0 {
				want = p
			}
			if spell(ordered(p)) != spell(ordered(want)) {
				t.Fatalf("%v: %s; was %s", texts, spell(p), spell(want))
			}
			if spell(p) != spell(want) {
				others++
			}
			for i := range texts {
				k := d.below(i + 1)
				texts[i], texts[k] = texts[k], texts[i]
			}
		}
	}
	if others < 1000 {
		t.Errorf("too few in another order: %d", others)
	}
}

// inOrder holds that types and functions stand in the order of the names.
func inOrder(t *testing.T, p api.Iface, names []string) {
	t.Helper()
	at := -1
	for _, x := range p.Types {
		next := slices.Index(names, x.Name)
		if next <= at {
			t.Fatalf("%v: %s", names, spell(p))
		}
		at = next
	}
	at = -1
	for _, x := range p.Funcs {
		next := slices.Index(names, x.Name)
		if next <= at {
			t.Fatalf("%v: %s", names, spell(p))
		}
		at = next
	}
	if len(p.Types)+len(p.Funcs) != len(names) {
		t.Fatalf("%v: %s", names, spell(p))
	}
}

// P10.3: what Build shows for a text has valid types alone, with parameters that there are.
func TestShownTypes(t *testing.T) {
	d := dice(8)
	for range 300 {
		text := "package a;import b;import c;" + strings.Join(d.sound(), "")
		text = strings.Replace(text, "I0", d.of("U", "T0", "b.U", "I0"), 1+d.below(3))
		f, wrong := filex.Text(text)
		if wrong.Code != 0 {
			continue
		}
		p, _ := against(t, f, []api.Iface{pack("b", "S", "(I)")})
		for _, x := range p.Funcs {
			for _, y := range append(slices.Clone(x.Params), x.Result) {
				numbers := term.Params(y)
				if !term.Check(y) || len(numbers) > 0 && numbers[len(numbers)-1] >= len(x.Bounds) {
					t.Fatalf("%s: %s", text, spell(p))
				}
			}
		}
		for _, x := range p.Types {
			for _, y := range x.Fields {
				if !term.Check(y.T) || len(term.Params(y.T)) > 0 || y.T.Kind == 7 {
					t.Fatalf("%s: %s", text, spell(p))
				}
			}
			for _, m := range x.Methods {
				for _, y := range append(slices.Clone(m.Params), m.Result) {
					if !term.Check(y) || len(term.Params(y)) > 0 {
						t.Fatalf("%s: %s", text, spell(p))
					}
				}
			}
		}
	}
}
