package value_test

import (
	"math"
	"slices"
	"strings"
	"testing"

	"quoin/api"
	"quoin/exprx"
	"quoin/infer"
	"quoin/lex"
	"quoin/sets"
	"quoin/show"
	"quoin/sig"
	"quoin/term"
	"quoin/value"
)

// model follows each promise to the letter.
type model struct {
	s     api.Scope
	wrong []api.Diag
	used  []api.Use
}

func (m *model) err(at, code int) { m.wrong = append(m.wrong, api.Diag{At: at, Code: code}) }

// ok tells whether something holds; if not, that is an error.
func (m *model) ok(is bool, at, code int) bool {
	if !is {
		m.err(at, code)
	}
	return is
}

func (m *model) variable(name string) (v api.Var, is bool) {
	for _, one := range m.s.Vars {
		if one.Name == name {
			v, is = one, true
		}
	}
	return v, is
}

// packed tells whether an expression is a name that is among Imports and not a variable.
func (m *model) packed(x api.Expr) bool {
	_, is := m.variable(x.Name)
	return x.Kind == 4 && !is && slices.Contains(m.s.Imports, x.Name)
}

// arg is an argument; an empty expression if it is missing.
func arg(x api.Expr, i int) api.Expr { return append(slices.Clone(x.Args), make([]api.Expr, 2)...)[i] }

func (m *model) value(x api.Expr) api.Type {
	t := m.typed(x)
	if t.Kind == 7 {
		m.err(x.At, 11)
		return ofKind(0)
	}
	return t
}

// valued is a value, which must be of a Kind or KBad.
func (m *model) valued(x api.Expr, kind int) {
	k := m.value(x).Kind
	m.ok(k == kind || k == 0, x.At, 11)
}

func (m *model) typed(x api.Expr) api.Type {
	t, d := ofKind(0), api.Def{At: -1}
	switch x.Kind {
	case 1, 2, 3:
		t = ofKind([]int{1, 3, 2}[x.Kind-1])
	case 4:
		if v, is := m.variable(x.Name); m.ok(is, x.At, 10) {
			t, d = v.T, api.Def{Name: x.Name, At: v.At}
		}
	case 5:
		if m.packed(arg(x, 0)) {
			m.err(x.End-len(x.Name), 10)
		} else if of := m.value(arg(x, 0)); of.Kind != 0 {
			f, is := sets.Field(m.s, of, x.Name)
			if m.ok(is, x.End-len(x.Name), 13) {
				t, d = f, api.Def{Pkg: term.Text(of), Name: x.Name, At: -1}
			}
		}
	case 6:
		t = m.call(x)
	case 7:
		of := m.value(arg(x, 0))
		m.valued(arg(x, 1), 1)
		if of.Kind == 5 {
			t = append(slices.Clone(of.Args), ofKind(0))[0]
		} else {
			m.ok(of.Kind == 0, arg(x, 0).At, 11)
		}
	case 8:
		t = m.created(x)
	case 9:
		t = m.operated(x)
	case 10:
		m.valued(arg(x, 0), 2)
		t = ofKind(2)
	default:
		return t
	}
	m.used = append(m.used, api.Use{At: x.At, End: x.End, T: t, Def: d})
	return t
}

func (m *model) operated(x api.Expr) api.Type {
	if x.Name == "&&" {
		m.valued(arg(x, 0), 2)
		m.valued(arg(x, 1), 2)
		return ofKind(2)
	}
	a := m.value(arg(x, 0))
	b := m.value(arg(x, 1))
	t := ofKind(0)
	if a.Kind != 0 && b.Kind != 0 {
		kinds := map[string][]int{"==": {1, 2, 3}, "<": {1, 3}, "+": {1, 3}}[x.Name]
		if m.ok(a.Kind == b.Kind && slices.Contains(append(kinds, 1), a.Kind), arg(x, 1).At, 11) {
			t = a
		}
	}
	if x.Name == "==" || x.Name == "<" {
		t = ofKind(2)
	}
	return t
}

func (m *model) created(x api.Expr) api.Type {
	t, d := sig.Type(m.s, x.T)
	m.ok(d.Code == 0, d.At, d.Code)
	var types []api.Type
	for _, a := range x.Args {
		types = append(types, m.typed(a))
	}
	of, _ := sets.Find(m.s, t)
	switch {
	case t.Kind == 0:
	case t.Kind == 5:
		for i, a := range x.Args {
			m.ok(sets.Assign(m.s, types[i], t.Args[0]), a.At, 11)
		}
	case of.Struct:
		m.ok(len(types) == len(of.Fields), x.End-1, 12)
		for i, a := range x.Args {
			m.ok(i >= len(of.Fields) || sets.Assign(m.s, types[i], of.Fields[i].T), a.At, 11)
		}
	default:
		m.err(x.T.At, 11)
		return ofKind(0)
	}
	return t
}

// callee is what is called, if anything is, and whether that is the language's own function.
func (m *model) callee(c api.Expr) (f []api.FuncDecl, d api.Def, length bool) {
	functions := func(p api.Iface, at int) {
		for _, one := range p.Funcs {
			if one.Name == c.Name && len(f) == 0 {
				f, d = []api.FuncDecl{one}, api.Def{Pkg: p.Pkg, Name: c.Name, At: -1}
			}
		}
		length = len(f) == 0 && c.Kind == 4 && c.Name == "len"
		m.ok(length || len(f) > 0, at, 10)
	}
	w := append(slices.Clone(m.s.W), api.Iface{})
	_, isVariable := m.variable(c.Name)
	switch {
	case c.Kind == 4 && !isVariable:
		functions(w[0], c.At)
	case c.Kind == 5 && m.packed(arg(c, 0)):
		for _, p := range w[1:max(1, len(m.s.W))] {
			if p.Pkg == arg(c, 0).Name {
				functions(p, c.End-len(c.Name))
				break
			}
		}
	case c.Kind == 5:
		t := m.value(arg(c, 0))
		for _, one := range sets.Methods(m.s, t) {
			if one.Name == c.Name && len(f) == 0 {
				f, d = []api.FuncDecl{{Params: one.Params, Result: one.Result}}, api.Def{Pkg: term.Text(t), Name: c.Name, At: -1}
			}
		}
		m.ok(t.Kind == 0 || len(f) > 0, c.End-len(c.Name), 13)
	default:
		m.ok(m.value(c).Kind == 0, c.At, 14)
	}
	return f, d, length
}

func (m *model) call(x api.Expr) api.Type {
	f, d, length := m.callee(arg(x, 0))
	if len(f) > 0 {
		m.used = append(m.used, api.Use{At: arg(x, 0).At, End: arg(x, 0).End, T: ofKind(7), Def: d})
	}
	var types []api.Type
	for i := 1; i < len(x.Args); i++ {
		types = append(types, m.typed(x.Args[i]))
	}
	if length {
		m.ok(len(types) == 1, x.End-1, 12)
		m.ok(len(types) == 0 || slices.Contains([]int{0, 3, 5}, types[0].Kind), arg(x, 1).At, 11)
		return ofKind(1)
	}
	if len(f) == 0 {
		return ofKind(0)
	}
	t, wrong := infer.Call(m.s, f[0], types)
	for _, w := range wrong {
		at := x.End - 1
		if w.Arg >= 0 {
			at = x.Args[w.Arg+1].At
		}
		m.err(at, w.Code)
	}
	return t
}

// answered is what is told of an expression.
type answered struct {
	T     api.Type
	Wrong []api.Diag
	Uses  []api.Use
}

func asked(s api.Scope, x api.Expr) answered {
	var a answered
	a.T, a.Wrong, a.Uses = value.Expr(s, x)
	return a
}

func modelled(s api.Scope, x api.Expr) answered {
	m := model{s: s}
	t := m.typed(x)
	return answered{t, sig.Sorted(m.wrong), m.used}
}

// against holds what is told of an expression against the model.
func against(t *testing.T, s api.Scope, x api.Expr) answered {
	t.Helper()
	got, want := asked(s, x), modelled(s, x)
	if spell(got) != spell(want) {
		t.Fatalf("%s in %s: %s; model %s", told(x), told(s), told(got), told(want))
	}
	return got
}

// placed gives each expression and type within an expression an At and an End of its own, such that no parser gives.
func placed(x api.Expr, number *int) api.Expr {
	*number++
	x.At, x.End, x.T.At = 100**number, 100**number+50, 100**number+10
	x.Args = slices.Clone(x.Args)
	for i := range x.Args {
		x.Args[i] = placed(x.Args[i], number)
	}
	return x
}

// small are all expressions that are made of leaves by one further step.
func small(leaves []api.Expr, most int) []api.Expr {
	var all []api.Expr
	add := func(x api.Expr, args ...api.Expr) {
		x.Args = args
		all = append(all, x)
	}
	names := strings.Fields("g u m f quiet len none")
	operators := strings.Fields("&& == < + - * /")
	types := []api.TypeX{{Kind: 1}, {Kind: 4, Name: "T"}, {Kind: 4, Name: "Z"}, {Kind: 4, Name: "none"}, {Kind: 4, Name: "P"}, {Kind: 4, Pkg: "b", Name: "U"}, {Kind: 4, Pkg: "c", Name: "U"}, {Kind: 5, Args: []api.TypeX{{Kind: 1}}}, {Kind: 5, Args: []api.TypeX{{Kind: 4, Name: "I"}}}, {}}
	for _, l := range lists(leaves, most) {
		add(api.Expr{Kind: 6}, l...)
		for _, k := range types {
			add(api.Expr{Kind: 8, T: k}, l...)
		}
		if len(l) <= 2 {
			add(api.Expr{Kind: 7}, l...)
			for _, op := range operators {
				add(api.Expr{Kind: 9, Name: op}, l...)
			}
		}
		if len(l) <= 1 {
			add(api.Expr{Kind: 10}, l...)
			for _, name := range names {
				add(api.Expr{Kind: 5, Name: name}, l...)
			}
		}
	}
	return all
}

// lists are all lists of up to so many of these.
func lists[T any](of []T, most int) [][]T {
	all := [][]T{nil}
	for i := 0; i < len(all); i++ {
		for _, x := range of {
			if len(all[i]) < most {
				all = append(all, append(slices.Clone(all[i]), x))
			}
		}
	}
	return all
}

// leaves are expressions without parts: names, all three that are written out, and one of no Kind.
func leaves(text string) []api.Expr {
	l := []api.Expr{{Kind: 1, N: 7}, {Kind: 2, Name: "x"}, {Kind: 3, N: 1}, {}}
	for _, name := range strings.Fields(text) {
		l = append(l, api.Expr{Kind: 4, Name: name})
	}
	return l
}

// P13.1 to P13.7: all expressions of one step out of few, and many of two.
func TestSmall(t *testing.T) {
	s := usual(t)
	first := small(leaves("x l t u s o i p bad none b c f h id len pick none2 lnone"), 2)
	count := 0
	for _, x := range first {
		count++
		n := 0
		against(t, s, placed(x, &n))
	}
	d := dice(3)
	for range 100 {
		some := leaves("x t l none b")
		for range 4 {
			some = append(some, first[d.below(len(first))])
		}
		for range 8 {
			// Half of them right: a step has few mistakes below it.
			for {
				x := first[d.below(len(first))]
				if len(asked(s, x).Wrong) == 0 {
					some = append(some, x)
					break
				}
			}
		}
		for _, x := range small(some, 2) {
			count++
			n := 0
			if count%3 == 0 {
				against(t, s, placed(x, &n))
			}
		}
	}
	if count < 100000 {
		t.Errorf("too few: %d", count)
	}
}

// dice are numbers in an order that a fixed rule shuffles.
type dice uint32

func (d *dice) below(n int) int {
	*d = *d*1664525 + 1013904223
	return int(uint64(*d>>8) * uint64(n) >> 24)
}

func (d *dice) of(l ...string) string { return l[d.below(len(l))] }

// few makes a list of up to so many.
func few[T any](d *dice, most int, one func() T) []T {
	var l []T
	for range d.below(most + 1) {
		l = append(l, one())
	}
	return l
}

// name makes one that all kinds of things have.
func (d *dice) name() string { return d.of("a", "b", "c", "m", "len", "T", "") }

// typed makes a type, now and then one that no other layer makes.
func (d *dice) typed(levels int) api.Type {
	x := api.Type{Kind: []int{1, 1, 1, 2, 3, 4, 4, 4, 5, 5, 6, 0, 7, 9}[d.below(14)]}
	odd := func() bool { return d.below(20) == 0 }
	if x.Kind == 4 || odd() {
		x.Pkg, x.Name = d.of("a", "a", "a", "b", ""), d.of("T", "U", "I", "J")
	}
	if x.Kind == 6 || odd() {
		x.N, x.Name = d.below(5)-d.below(9)/8, d.of("P", "Q")
	}
	if x.Kind == 5 || odd() {
		for range (1 + d.below(9)/7 - d.below(9)/8) * min(levels, 1) {
			x.Args = append(x.Args, d.typed(levels-1))
		}
	}
	return x
}

func (d *dice) wanted() api.Type { return d.typed(2) }

func (d *dice) function() api.FuncDecl {
	f := api.FuncDecl{Name: d.name(), Params: few(d, 2, d.wanted), Result: d.wanted()}
	if d.below(3) == 0 {
		f.Bounds = few(d, 2, d.wanted)
		for i := range f.Bounds {
			f.Bounds[i] = named("a", "I")
			f.Params = append(f.Params, param(i, "P"))
		}
	}
	return f
}

func (d *dice) method() api.Method {
	return api.Method{Name: d.name(), Params: few(d, 1, d.wanted), Result: d.wanted()}
}

func (d *dice) field() api.Field { return api.Field{Name: d.name(), T: d.wanted()} }

func (d *dice) iface() api.Iface {
	p := api.Iface{Pkg: d.of("a", "b", "c", ""), Funcs: few(d, 6, d.function)}
	for _, name := range []string{"T", "U", "I", "J"}[:2+d.below(3)] {
		p.Types = append(p.Types, api.TypeDecl{Name: name, Struct: d.below(2) == 0, Fields: few(d, 3, d.field), Methods: few(d, 3, d.method)})
	}
	return p
}

// scope makes one in which names mean many things at once.
func (d *dice) scope() api.Scope {
	s := api.Scope{W: few(d, 3, d.iface), Imports: few(d, 4, d.name), Names: few(d, 2, func() string { return d.of("P", "Q", "T") }), Bounds: few(d, 3, d.wanted)}
	if len(s.W) > 0 && d.below(4) > 0 {
		s.W[0].Pkg = "a"
		s.W[0].Types = append(s.W[0].Types, api.TypeDecl{Name: "I"})
	}
	at := 1000
	s.Vars = few(d, 6, func() api.Var {
		at++
		return api.Var{Name: d.of("x", "y", "z", "a", "b", "len", ""), T: d.wanted(), At: at}
	})
	return s
}

func (d *dice) typeX(levels int) api.TypeX {
	x := api.TypeX{Kind: []int{1, 2, 3, 4, 4, 4, 4, 5, 5, 0}[d.below(10)]}
	if x.Kind == 4 {
		x.Pkg, x.Name = d.of("", "", "", "a", "b", "c"), d.of("T", "U", "I", "J", "P", "none")
	}
	if x.Kind == 5 && levels > 0 {
		x.Args = few(d, 1, func() api.TypeX { return d.typeX(levels - 1) })
	}
	return x
}

// expr makes an expression, now and then with other arguments than any parser makes.
func (d *dice) expr(levels int) api.Expr {
	x := api.Expr{Kind: 1 + d.below(10)}
	if levels == 0 || d.below(4) == 0 {
		x.Kind = []int{1, 2, 3, 4, 4, 4, 4, 4, 4}[d.below(9)]
	}
	x.N = d.below(2)
	many := []int{0, 0, 0, 0, 0, 1, 1 + d.below(3), 2, d.below(3), 2, 1}[x.Kind]
	switch x.Kind {
	case 4:
		x.Name = d.of("x", "y", "z", "a", "b", "c", "len", "m", "")
	case 5:
		x.Name = d.name()
	case 8:
		x.T = d.typeX(2)
	case 9:
		x.Name = d.of("&&", "==", "<", "+", "-", "*", "", "/", "&")
	}
	for range many - d.below(20)/19 {
		x.Args = append(x.Args, d.expr(levels-1))
	}
	if x.Kind == 6 && len(x.Args) > 0 && d.below(3) > 0 {
		x.Args[0] = d.callee()
	}
	if d.below(30) == 0 {
		x.Kind = []int{0, -1, 11, 12}[d.below(4)]
	}
	return x
}

// callee makes what names a function, often, or a method of a variable.
func (d *dice) callee() api.Expr {
	c := api.Expr{Kind: 4, Name: d.name()}
	if d.below(2) == 0 {
		c = api.Expr{Kind: 5, Name: d.name(), Args: []api.Expr{{Kind: 4, Name: d.of("a", "b", "c", "x", "y")}}}
	}
	return c
}

// P13.1 to P13.7: grown scopes and expressions.
func TestGrown(t *testing.T) {
	d := dice(1)
	met := map[int]int{}
	right := 0
	for range 20000 {
		s := d.scope()
		for range 10 {
			n := 0
			a := against(t, s, placed(d.expr(3), &n))
			for _, w := range a.Wrong {
				met[w.Code]++
			}
			if len(a.Wrong) == 0 && len(a.Uses) > 2 {
				right++
			}
			if a.T.Kind == 7 {
				met[7]++
			}
		}
	}
	for code := 10; code <= 15; code++ {
		if met[code] < 300 {
			t.Errorf("too few of %d: %d", code, met[code])
		}
	}
	if right < 1000 || met[7] < 500 {
		t.Errorf("too few: %d right, %d none", right, met[7])
	}
}

// P13.1, P13.2, R1: what has no Kind is no use, whatever it has, and missing arguments are such.
func TestMissing(t *testing.T) {
	s := usual(t)
	name := func(name string, at int) api.Expr { return api.Expr{Kind: 4, At: at, End: at + len(name), Name: name} }
	for _, kind := range append(unknown(), 0) {
		x := api.Expr{Kind: kind, At: 3, End: 9, Name: "x", N: 1, T: api.TypeX{Kind: 4, Name: "none"}}
		if a := against(t, s, x); spell(a) != spell(answered{}) {
			t.Errorf("%d: %s", kind, told(a))
		}
		for outer := range 11 {
			for _, args := range [][]api.Expr{{x}, {x, x}, {name("l", 20), x}, {x, name("l", 20)}, {name("t", 20), x}, {name("f", 20), x}, {name("len", 20), x}, {name("id", 20), x}} {
				y := api.Expr{Kind: outer, At: 1, End: 50, Name: "g", T: api.TypeX{Kind: 4, At: 30, Name: "Z"}, Args: args}
				against(t, s, y)
			}
		}
	}
	for _, c := range []struct {
		x     api.Expr
		want  int
		wrong string
	}{
		{api.Expr{Kind: 4}, 0, "name 0"}, {api.Expr{Kind: 5, End: 9, Name: "g"}, 0, ""}, {api.Expr{Kind: 6, End: 9}, 0, ""}, {api.Expr{Kind: 7, End: 9}, 0, ""}, {api.Expr{Kind: 8, End: 9}, 0, ""},
		{api.Expr{Kind: 9, End: 9, Name: "&&"}, 2, ""}, {api.Expr{Kind: 9, End: 9, Name: "<"}, 2, ""}, {api.Expr{Kind: 9, End: 9, Name: "=="}, 2, ""}, {api.Expr{Kind: 9, End: 9, Name: "+"}, 0, ""}, {api.Expr{Kind: 9, End: 9}, 0, ""}, {api.Expr{Kind: 10, End: 9}, 2, ""},
		{api.Expr{Kind: 7, Args: []api.Expr{name("l", 3)}}, 1, ""}, {api.Expr{Kind: 9, Name: "&&", Args: []api.Expr{name("l", 3)}}, 2, "type 3"}, {api.Expr{Kind: 9, Name: "+", Args: []api.Expr{name("l", 3)}}, 0, ""},
		{api.Expr{Kind: 6, Args: []api.Expr{{Kind: 5, At: 2, End: 5, Name: "m"}}}, 0, ""}, {api.Expr{Kind: 6, Args: []api.Expr{{}, name("y", 7)}}, 0, "name 7"},
		{api.Expr{Kind: 8, T: api.TypeX{Kind: 5, At: 2}, Args: []api.Expr{{}, name("y", 7), name("none", 9)}}, 5, "name 7 type 9"},
	} {
		a := against(t, s, c.x)
		if a.T.Kind != c.want || spell(a.Wrong) != spell(errors(t, c.wrong)) || len(a.Uses) == 0 {
			t.Errorf("%s: %s; want %d, %s", told(c.x), told(a), c.want, c.wrong)
		}
	}
}

// P13.1: errors are told in order, each once, and Uses from left to right, whatever the places are.
func TestPlaces(t *testing.T) {
	s := usual(t)
	at := []int{0, 5, -1, math.MaxInt, math.MinInt, 1 << 40}
	d := dice(5)
	var moved func(x api.Expr) api.Expr
	moved = func(x api.Expr) api.Expr {
		x.At, x.End, x.T.At = at[d.below(len(at))], at[d.below(len(at))], at[d.below(len(at))]
		x.Args = slices.Clone(x.Args)
		for i := range x.Args {
			x.Args[i] = moved(x.Args[i])
		}
		return x
	}
	for _, text := range []string{"f(y)+g(h(),z)", "t.x(y).z+b.q", "new T{s,h(),y}", "pick(1,2,3)&&len(len(),1)", "l[s][h()]", "!(1+(s<t.g))"} {
		for range 2000 {
			a := against(t, s, moved(parsed(t, text)))
			for i := 1; i < len(a.Wrong); i++ {
				if a.Wrong[i-1].At > a.Wrong[i].At || a.Wrong[i-1].At == a.Wrong[i].At && a.Wrong[i-1].Code >= a.Wrong[i].Code {
					t.Fatalf("%s: %v", text, a.Wrong)
				}
			}
		}
	}
}

// source makes the text of an expression in the usual scope, and parses it.
func (d *dice) source(t *testing.T) (string, api.Expr) {
	t.Helper()
	var named func(x api.Expr) api.Expr
	named = func(x api.Expr) api.Expr {
		switch x.Kind {
		case 1:
			x.N = d.below(100)
		case 2:
			x.Name = d.of("", "a", "b c")
		case 4:
			x.Name = d.of("x", "x", "l", "t", "u", "s", "o", "i", "p", "bad", "none", "b", "c", "f", "h", "id", "len", "lt")
		case 5:
			x.Name = d.of("g", "next", "u", "i", "m", "same", "quiet", "up", "f", "n")
		case 8:
			x.T = []api.TypeX{{Kind: 4, Name: "T"}, {Kind: 4, Name: "Z"}, {Kind: 4, Pkg: "b", Name: "U"}, {Kind: 5, Args: []api.TypeX{{Kind: 1}}}, {Kind: 4, Name: "none"}}[d.below(5)]
		case 9:
			x.Name = d.of("&&", "==", "<", "+", "-", "*")
		}
		x.Args = slices.Clone(x.Args)
		for i := range x.Args {
			x.Args[i] = named(x.Args[i])
		}
		return x
	}
	for {
		text := show.Expr(named(d.expr(4)))
		l, wrong := lex.All(text)
		if x, _, fault := exprx.Parse(l, 0); wrong.Code == 0 && fault.Code == 0 {
			return text, x
		}
	}
}

// P13.8: all Uses and all errors lie within the expression, and the last Use is its own.
func TestWithin(t *testing.T) {
	s := usual(t)
	d := dice(7)
	long, wrong := 0, 0
	for range 30000 {
		text, x := d.source(t)
		before := strings.Repeat(" ", d.below(3))
		l, _ := lex.All(before + text)
		moved, _, _ := exprx.Parse(l, 0)
		a, b := against(t, s, x), asked(s, moved)
		for _, w := range a.Wrong {
			wrong++
			if w.At < x.At || w.At >= x.End || w.Code < 10 || w.Code > 15 {
				t.Fatalf("%s: %v", text, w)
			}
		}
		for i, u := range a.Uses {
			if u.At < x.At || u.End > x.End || u.At >= u.End {
				t.Fatalf("%s: %v", text, u)
			}
			// Behind all those within it.
			for _, later := range a.Uses[i:] {
				if u.At <= later.At && later.End <= u.End && (u.At != later.At || u.End != later.End) {
					t.Fatalf("%s: %v ahead of %v", text, u, later)
				}
			}
		}
		last := a.Uses[len(a.Uses)-1]
		if last.At != x.At || last.End != x.End || spell(last.T) != spell(a.T) {
			t.Fatalf("%s: %v", text, last)
		}
		if len(a.Uses) > 5 {
			long++
		}
		// Layout changes offsets only.
		for i := range a.Wrong {
			a.Wrong[i].At += len(before)
		}
		for i := range a.Uses {
			a.Uses[i].At, a.Uses[i].End = a.Uses[i].At+len(before), a.Uses[i].End+len(before)
		}
		if spell(a) != spell(b) {
			t.Fatalf("%q and %d spaces: %s; want %s", text, len(before), told(b), told(a))
		}
	}
	if long < 2000 || wrong < 5000 {
		t.Errorf("too few: %d long, %d wrong", long, wrong)
	}
}

// namesOf are the names that an expression has anywhere.
func namesOf(x api.Expr) []string {
	var l []string
	if x.Kind == 4 {
		l = append(l, x.Name)
	}
	for _, a := range x.Args {
		l = append(l, namesOf(a)...)
	}
	return l
}

// P13.8: variables that an expression does not name change nothing, wherever they stand.
func TestOtherVariables(t *testing.T) {
	d := dice(11)
	changed := 0
	for range 20000 {
		s, n := d.scope(), 0
		x := placed(d.expr(3), &n)
		names := namesOf(x)
		isNamed := func(name string) bool { return slices.Contains(names, name) }
		free := slices.DeleteFunc(strings.Fields("x y z a b c m len T P g other"), isNamed)
		others := func() []api.Var {
			return few(&d, 2, func() api.Var { return api.Var{Name: d.of(free...), T: d.wanted(), At: d.below(2000)} })
		}
		other := s
		other.Vars = others()
		for _, v := range s.Vars {
			if isNamed(v.Name) {
				other.Vars = append(other.Vars, v)
			}
			other.Vars = append(other.Vars, others()...)
		}
		if spell(s.Vars) != spell(other.Vars) {
			changed++
		}
		want := against(t, s, x)
		if got := asked(other, x); spell(got) != spell(want) {
			t.Fatalf("%s in %s: %s; want %s", told(x), told(other), told(got), told(want))
		}
	}
	if changed < 10000 {
		t.Errorf("too few: %d", changed)
	}
}
