package body_test

import (
	"slices"
	"testing"

	"quoin/api"
	"quoin/lex"
	"quoin/sets"
	"quoin/sig"
	"quoin/value"
)

// ends follows P14.1 to the letter.
func ends(b []api.Stmt) bool {
	if len(b) == 0 {
		return false
	}
	st := b[len(b)-1]
	return st.Kind == 3 || st.Kind == 4 && st.Has && ends(st.Body) && ends(st.Else)
}

// model follows P14.2 and P14.3 to the letter: whoever sees more variables has a longer list of them.
type model struct {
	s      api.Scope
	wanted api.Type
	answered
}

// ok tells whether something holds; if not, that is an error.
func (m *model) ok(is bool, at, code int) bool {
	if !is {
		m.Wrong = append(m.Wrong, api.Diag{At: at, Code: code})
	}
	return is
}

func (m *model) examined(vars []api.Var, x api.Expr) api.Type {
	s := m.s
	s.Vars = vars
	t, wrong, uses := value.Expr(s, x)
	m.Wrong, m.Uses = append(m.Wrong, wrong...), append(m.Uses, uses...)
	return t
}

func (m *model) block(vars []api.Var, l []api.Stmt) {
	for i, st := range l {
		var t api.Type
		if st.Kind >= 1 && st.Kind <= 6 && (st.Kind != 3 || st.Has) {
			t = m.examined(vars, st.X)
		}
		switch st.Kind {
		case 1:
			if !m.ok(t.Kind != 7, st.X.At, 11) {
				t = ofKind(0)
			}
			same := func(other api.Stmt) bool { return other.Kind == 1 && other.Name == st.Name }
			m.ok(!slices.ContainsFunc(l[:i], same), st.At, 9)
			vars = append(slices.Clone(vars), api.Var{Name: st.Name, T: t, At: st.At})
		case 2:
			m.set(vars, st, t)
		case 3:
			switch {
			case !st.Has:
				m.ok(m.wanted.Kind == 7, st.At, 16)
			case m.ok(m.wanted.Kind != 7, st.X.At, 16):
				m.ok(sets.Assign(m.s, t, m.wanted), st.X.At, 11)
			}
		case 4, 5:
			m.ok(t.Kind == 2 || t.Kind == 0, st.X.At, 11)
			m.block(vars, st.Body)
			if st.Kind == 4 && st.Has {
				m.block(vars, st.Else)
			}
		}
	}
}

func (m *model) set(vars []api.Var, st api.Stmt, t api.Type) {
	for _, v := range slices.Backward(vars) {
		if v.Name == st.Name {
			m.Uses = append(m.Uses, api.Use{At: st.At, End: st.At + len(st.Name), T: v.T, Def: api.Def{Name: v.Name, At: v.At}})
			m.ok(sets.Assign(m.s, t, v.T), st.X.At, 11)
			return
		}
	}
	m.ok(false, st.At, 10)
}

// head is the scope of a body, with the parameters.
func head(s api.Scope, d api.Decl) api.Scope {
	bare := api.Scope{W: s.W, Imports: s.Imports}
	in := bare
	for i, p := range d.Bounds {
		same := func(other api.Param) bool { return other.Name == p.Name }
		if d.Method || i >= 16 || slices.ContainsFunc(d.Bounds[:i], same) {
			continue
		}
		t, _ := sig.Type(bare, p.T)
		if of, is := sets.Find(bare, t); !is || of.Struct {
			t = ofKind(0)
		}
		in.Names, in.Bounds = append(in.Names, p.Name), append(in.Bounds, t)
	}
	if d.Method {
		t, _ := sig.Type(bare, d.Recv.T)
		of, _ := sets.Find(bare, t)
		if !of.Struct || t.Pkg != bare.W[0].Pkg {
			t = ofKind(0)
		}
		in.Vars = append(in.Vars, api.Var{Name: d.Recv.Name, T: t, At: d.Recv.At})
	}
	for _, p := range d.Fields {
		t, _ := sig.Type(in, p.T)
		in.Vars = append(in.Vars, api.Var{Name: p.Name, T: t, At: p.At})
	}
	return in
}

func modelled(s api.Scope, d api.Decl) answered {
	m := model{s: head(s, d), wanted: ofKind(7)}
	if d.Has {
		m.wanted, _ = sig.Type(m.s, d.Result)
	}
	m.block(m.s.Vars, d.Body)
	m.ok(m.wanted.Kind == 7 || ends(d.Body), d.End-1, 16)
	slices.SortFunc(m.Wrong, func(a, b api.Diag) int {
		if a.At != b.At && (a.At < b.At) || a.At == b.At && a.Code < b.Code {
			return -1
		} else if a == b {
			return 0
		}
		return 1
	})
	m.Wrong = slices.Compact(m.Wrong)
	return m.answered
}

// against holds what is told of a function against the model.
func against(t *testing.T, s api.Scope, d api.Decl) answered {
	t.Helper()
	got, want := asked(s, d), modelled(s, d)
	if spell(got) != spell(want) {
		t.Fatalf("%s in %s: %s; model %s", told(d), told(s), told(got), told(want))
	}
	return got
}

// replaced has other offsets everywhere.
func replaced(d api.Decl, at func(int) int) api.Decl {
	var typeX func(x api.TypeX) api.TypeX
	typeX = func(x api.TypeX) api.TypeX {
		x.At, x.Args = at(x.At), each(x.Args, typeX)
		return x
	}
	var expr func(x api.Expr) api.Expr
	expr = func(x api.Expr) api.Expr {
		x.At, x.End, x.T = at(x.At), at(x.End), typeX(x.T)
		x.Args = each(x.Args, expr)
		return x
	}
	var stmt func(st api.Stmt) api.Stmt
	stmt = func(st api.Stmt) api.Stmt {
		st.At, st.X = at(st.At), expr(st.X)
		st.Body, st.Else = each(st.Body, stmt), each(st.Else, stmt)
		return st
	}
	param := func(p api.Param) api.Param {
		p.At, p.T = at(p.At), typeX(p.T)
		return p
	}
	d.At, d.Recv, d.Bounds, d.Fields, d.Result = at(d.At), param(d.Recv), each(d.Bounds, param), each(d.Fields, param), typeX(d.Result)
	d.Body = each(d.Body, stmt)
	d.End = at(d.End)
	return d
}

func each[T any](l []T, f func(T) T) []T {
	l = slices.Clone(l)
	for i := range l {
		l[i] = f(l[i])
	}
	return l
}

// placed has offsets that are all different, each greater than those ahead of it.
func placed(d api.Decl) api.Decl {
	n := 0
	return replaced(d, func(int) int { n += 100; return n })
}

// lists are all lists of up to so many of these.
func lists[T any](of []T, most int) [][]T {
	all := [][]T{nil}
	for i := 0; i < len(all); i++ {
		for _, x := range of {
			if len(all[i]) < most {
				all = append(all, append(slices.Clone(all[i]), x))
			}
		}
	}
	return all
}

// simple are statements without blocks, of which most are right in some place.
func simple(t *testing.T) []api.Stmt {
	return function(t, "func f(){let x=1;let x=true;let y=x;let y=h();x=1;x=y;y=x;return;return x;return h();x;y;}").Body
}

// P14.3: all bodies of up to three simple statements, and of a branch or a loop around and between up to two.
func TestSmall(t *testing.T) {
	s := usual(t)
	l := simple(t)
	var heads []api.Decl
	for _, text := range []string{"func f(x int){}", "func f(y bool)bool{}", "func f(x T)V{}", "func(x T)q(y T)T{}"} {
		heads = append(heads, function(t, text))
	}
	bodies := lists(l, 3)
	conditions := []api.Expr{{Kind: 3}, {Kind: 4, Name: "x"}, {Kind: 4, Name: "y"}, {Kind: 1}}
	inner := lists(l, 2)
	for i, x := range conditions {
		for j, one := range inner {
			st := api.Stmt{Kind: 4 + (i+j)%2, X: x, Has: j%3 > 0, Body: one, Else: inner[(j*7+i)%len(inner)]}
			for k, before := range l {
				after := l[(i+j+k)%len(l)]
				bodies = append(bodies, []api.Stmt{st, after}, []api.Stmt{before, st}, []api.Stmt{before, st, after}, []api.Stmt{{Kind: 4, X: x, Body: []api.Stmt{before, st, after}}, after})
			}
		}
	}
	right := 0
	for _, b := range bodies {
		for _, d := range heads {
			d.Body = b
			if a := against(t, s, placed(d)); len(a.Wrong) == 0 {
				right++
			}
		}
	}
	if len(bodies) < 30000 || right < 1000 {
		t.Errorf("too few: %d, %d right", len(bodies), right)
	}
}

// dice are numbers in an order that a fixed rule shuffles.
type dice uint32

func (d *dice) below(n int) int {
	*d = *d*1664525 + 1013904223
	return int(uint64(*d>>8) * uint64(n) >> 24)
}

func (d *dice) of(l ...string) string { return l[d.below(len(l))] }

// few makes a list of up to so many.
func few[T any](d *dice, most int, one func() T) []T {
	var l []T
	for range d.below(most + 1) {
		l = append(l, one())
	}
	return l
}

// typed makes a type, now and then one that no other layer makes.
func (d *dice) typed() api.Type {
	x := api.Type{Kind: []int{1, 1, 1, 2, 2, 3, 4, 4, 4, 5, 6, 0, 7, 9}[d.below(14)]}
	switch x.Kind {
	case 4:
		x.Pkg, x.Name = d.of("a", "a", "a", "b", ""), d.of("T", "U", "I", "J")
	case 5:
		x.Args = few(d, 1, d.typed)
	case 6:
		x.N, x.Name = d.below(3), "P"
	}
	return x
}

func (d *dice) name() string { return d.of("x", "y", "z", "m", "g") }

func (d *dice) method() api.Method {
	return api.Method{Name: d.name(), Params: few(d, 1, d.typed), Result: d.typed()}
}

func (d *dice) field() api.Field { return api.Field{Name: d.name(), T: d.typed()} }

func (d *dice) function() api.FuncDecl {
	return api.FuncDecl{Name: d.name(), Params: few(d, 1, d.typed), Result: d.typed()}
}

func (d *dice) iface() api.Iface {
	p := api.Iface{Pkg: d.of("a", "b", "c", ""), Funcs: few(d, 3, d.function)}
	for _, name := range []string{"T", "U", "I", "J"}[:2+d.below(3)] {
		p.Types = append(p.Types, api.TypeDecl{Name: name, Struct: d.below(2) == 0, Fields: few(d, 2, d.field), Methods: few(d, 2, d.method)})
	}
	return p
}

// scope makes one in which names mean many things at once.
func (d *dice) scope() api.Scope {
	imported := func() string { return d.of("a", "b", "c", "x") }
	s := api.Scope{W: few(d, 3, d.iface), Imports: few(d, 3, imported)}
	if len(s.W) > 0 && d.below(4) > 0 {
		s.W[0].Pkg = "a"
	}
	return s
}

func (d *dice) typeX() api.TypeX {
	x := api.TypeX{Kind: []int{1, 1, 2, 3, 4, 4, 4, 4, 5, 5, 0}[d.below(11)]}
	switch x.Kind {
	case 4:
		x.Pkg, x.Name = d.of("", "", "", "", "a", "b", "c"), d.of("T", "U", "I", "J", "P", "Q", "none")
	case 5:
		x.Args = few(d, 1, d.typeX)
	}
	return x
}

func (d *dice) param() api.Param {
	return api.Param{Name: d.of("x", "y", "z", "b", "P"), T: d.typeX()}
}

func (d *dice) bound() api.Param { return api.Param{Name: d.of("P", "Q", "T"), T: d.typeX()} }

// expr makes an expression, mostly a name.
func (d *dice) expr(levels int) api.Expr {
	x := api.Expr{Kind: []int{1, 2, 3, 3, 4, 4, 4, 4, 4, 4}[d.below(10)], N: d.below(2)}
	if levels > 0 && d.below(3) == 0 {
		x.Kind = []int{5, 6, 6, 7, 8, 9, 9, 10, 0}[d.below(9)]
	}
	many := []int{0, 0, 0, 0, 0, 1, 1 + d.below(2), 2, d.below(2), 2, 1}[x.Kind]
	for range many - d.below(20)/19 {
		x.Args = append(x.Args, d.expr(levels-1))
	}
	switch x.Kind {
	case 4, 5:
		x.Name = d.of("x", "y", "z", "b", "m")
	case 6:
		if len(x.Args) > 0 && d.below(4) > 0 {
			x.Args[0] = api.Expr{Kind: 4, Name: d.name()}
		}
	case 8:
		x.T = d.typeX()
	case 9:
		x.Name = d.of("&&", "==", "<", "+", "-")
	}
	return x
}

// stmt makes a statement, now and then one that no parser makes.
func (d *dice) stmt(levels int) api.Stmt {
	st := api.Stmt{Kind: []int{1, 1, 1, 2, 2, 2, 3, 6, 6, 4, 4, 5}[d.below(12)], Name: d.of("x", "y", "z", "b"), Has: d.below(2) == 0, X: d.expr(2)}
	if d.below(2) == 0 {
		// Fewer mistakes within it.
		st.X = d.expr(0)
	}
	if levels > 0 && (st.Kind == 4 || st.Kind == 5 || d.below(30) == 0) {
		inner := func() api.Stmt { return d.stmt(levels - 1) }
		st.Body, st.Else = few(d, 3, inner), few(d, 3, inner)
		if d.below(2) == 0 {
			st.X = api.Expr{Kind: 3}
		}
	}
	if d.below(40) == 0 {
		st.Kind = []int{0, 7, -1}[d.below(3)]
	}
	return st
}

func (d *dice) decl() api.Decl {
	f := api.Decl{Kind: 3, Method: d.below(3) == 0, Recv: d.param(), Bounds: few(d, 3, d.bound), Fields: few(d, 4, d.param), Has: d.below(2) == 0, Result: d.typeX()}
	if d.below(30) == 0 {
		f.Bounds = append(slices.Repeat([]api.Param{f.Recv}, 13), f.Bounds...)
	}
	f.Body = few(d, 5, func() api.Stmt { return d.stmt(2) })
	if d.below(3) == 0 {
		f.Body = append(f.Body, api.Stmt{Kind: 3, Has: f.Has, X: d.expr(1)})
	}
	return f
}

// P14.2, P14.3: grown scopes and functions.
func TestGrown(t *testing.T) {
	d := dice(1)
	met := map[int]int{}
	right := 0
	for range 20000 {
		s := d.scope()
		for range 4 {
			a := against(t, s, placed(d.decl()))
			for _, w := range a.Wrong {
				met[w.Code]++
			}
			if len(a.Wrong) == 0 && len(a.Uses) > 2 {
				right++
			}
		}
	}
	for _, code := range []int{9, 10, 11, 12, 13, 14, 16} {
		if met[code] < 1000 {
			t.Errorf("too few of %d: %d", code, met[code])
		}
	}
	if right < 1000 {
		t.Errorf("too few: %d right", right)
	}
}

// P14.2: of a scope only W and Imports count, in grown functions too.
func TestGrownScopes(t *testing.T) {
	d := dice(7)
	for range 5000 {
		s := d.scope()
		f := placed(d.decl())
		want := asked(s, f)
		s.Names = few(&d, 3, func() string { return d.of("P", "Q", "T", "I") })
		s.Bounds = few(&d, 3, d.typed)
		s.Vars = few(&d, 4, func() api.Var { return api.Var{Name: d.of("x", "y", "z", "b"), T: d.typed(), At: 7} })
		if got := asked(s, f); spell(got) != spell(want) {
			t.Fatalf("%s in %s: %s; want %s", told(f), told(s), told(got), told(want))
		}
	}
}

// before are the errors ahead of an offset.
func before(l []api.Diag, at int) []api.Diag {
	return slices.DeleteFunc(slices.Clone(l), func(d api.Diag) bool { return d.At >= at })
}

// P14.4: what stands behind statements does not change their errors, nor their Uses.
func TestAppended(t *testing.T) {
	d := dice(9)
	many := 0
	for range 20000 {
		s, f := d.scope(), d.decl()
		f.Body = append(f.Body, few(&d, 3, func() api.Stmt { return d.stmt(2) })...)
		f = placed(f)
		part := f
		k := d.below(len(f.Body) + 1)
		part.Body = f.Body[:k]
		end := f.End - 1
		if k < len(f.Body) {
			end = f.Body[k].At
		}
		a, whole := asked(s, part), asked(s, f)
		if got, want := before(whole.Wrong, end), before(a.Wrong, end); spell(got) != spell(want) {
			t.Fatalf("%d of %s: %v; want %v", k, told(f), got, want)
		}
		if spell(whole.Uses[:len(a.Uses)]) != spell(a.Uses) {
			t.Fatalf("%d of %s: %v; want %v", k, told(f), whole.Uses, a.Uses)
		}
		// What is left of the part is the missing return alone.
		if rest := len(a.Wrong) - len(before(a.Wrong, end)); rest > 1 || rest == 1 && a.Wrong[len(a.Wrong)-1] != (api.Diag{At: f.End - 1, Code: 16}) {
			t.Fatalf("%d of %s: %v", k, told(f), a.Wrong)
		}
		if len(a.Wrong) > 1 && k < len(f.Body) {
			many++
		}
	}
	if many < 3000 {
		t.Errorf("too few: %d", many)
	}
}

// P14.2, P14.3: layout changes nothing but offsets.
func TestLayout(t *testing.T) {
	s := usual(t)
	const text = "func f[P I](x int,p P)int{let y=x;if y{y=g(p);let z=y;z=h();}else{return p.n();}for x==1{let y=true;y=x;}return z;}"
	want := against(t, s, function(t, text))
	wide := ""
	l, _ := lex.All(text)
	for _, token := range l {
		wide += token.Text + " \t// a remark;\n"
	}
	got := against(t, s, function(t, wide))
	if len(want.Wrong) != len(got.Wrong) || len(want.Uses) != len(got.Uses) || len(got.Wrong) < 6 {
		t.Fatalf("%s; want %s", told(got), told(want))
	}
	for i, w := range got.Wrong {
		if w.Code != want.Wrong[i].Code || word(wide, w.At) != word(text, want.Wrong[i].At) {
			t.Errorf("%v; want %v", w, want.Wrong[i])
		}
	}
	for i, u := range got.Uses {
		other := want.Uses[i]
		if spell(u.T) != spell(other.T) || u.Def.Name != other.Def.Name || u.Def.At >= 0 && word(wide, u.Def.At) != word(text, other.Def.At) {
			t.Errorf("%v; want %v", u, other)
		}
	}
}

// word is the first byte at an offset of a text.
func word(text string, at int) string { return text[at : at+1] }
