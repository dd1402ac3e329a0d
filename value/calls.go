package value

import (
	"slices"
	"strings"

	"quoin/api"
	"quoin/infer"
	"quoin/sets"
)

// itself is the place of what is wrong with a call, or with what is made new, as a whole.
const itself = -1

// length is the name of the function that the language has itself.
const length = "len"

// called is the type of what a call answers.
func (e *examiner) called(x *api.Expr) api.Type {
	c, args := argument(x, 0), x.Args[min(1, len(x.Args)):]
	report := e.reporting(x, args)
	if e.isLength(c) {
		measure(e.types(args), report)
		return api.Type{Kind: api.KInt}
	}
	f, is := e.callee(c)
	types := e.types(args)
	if !is {
		return api.Type{}
	}
	t, wrong := infer.Call(e.scope, f, types)
	for _, one := range wrong {
		report(one.Arg, one.Code)
	}
	return t
}

// isLength tells whether the language's own function is called: a variable and a function of its name count ahead of it.
func (e *examiner) isLength(c *api.Expr) bool {
	if c.Kind != api.EName || c.Name != length || e.names.isVariable(length) {
		return false
	}
	_, is := e.names.function(own, length)
	return !is
}

// measure checks a call of the language's own function.
func measure(types []api.Type, report func(arg, code int)) {
	if len(types) != 1 {
		report(itself, api.DCount)
	}
	if len(types) == 0 {
		return
	}
	switch types[0].Kind {
	case api.KList, api.KText, api.KBad:
	default:
		report(0, api.DType)
	}
}

// callee is the function or method that is called, if there is one.
func (e *examiner) callee(c *api.Expr) (api.FuncDecl, bool) {
	var f api.FuncDecl
	var d api.Def
	is := false
	switch {
	case c.Kind == api.EName && !e.names.isVariable(c.Name):
		f, d, is = e.function(own, c.Name, c.At)
	case c.Kind == api.ESel && e.names.isPackage(argument(c, 0)):
		// Of a package that is not available nothing can be told; that it is not there is told of its import.
		if p, available := e.names.available(argument(c, 0).Name); available {
			f, d, is = e.function(p, c.Name, nameAt(c))
		}
	case c.Kind == api.ESel:
		f, d, is = e.method(c)
	default:
		if e.value(c).Kind != api.KBad {
			e.report(c.At, api.DCall)
		}
	}
	if is {
		e.use(c, api.Type{Kind: api.KNone}, d)
	}
	return f, is
}

// function is a package's, by a name that stands at an offset.
func (e *examiner) function(p int, name string, at int) (api.FuncDecl, api.Def, bool) {
	f, is := e.names.function(p, name)
	if !is {
		e.report(at, api.DName)
		return api.FuncDecl{}, api.Def{}, false
	}
	return f, api.Def{Pkg: strings.Clone(e.names.packs[p].Pkg), Name: strings.Clone(name), At: -1}, true
}

// method is the one that an expression selects, as a function without bounds.
func (e *examiner) method(c *api.Expr) (api.FuncDecl, api.Def, bool) {
	t := e.value(argument(c, 0))
	if t.Kind == api.KBad {
		return api.FuncDecl{}, api.Def{}, false
	}
	l := sets.Methods(e.scope, t)
	i := slices.IndexFunc(l, func(m api.Method) bool { return m.Name == c.Name })
	if i < 0 {
		e.report(nameAt(c), api.DField)
		return api.FuncDecl{}, api.Def{}, false
	}
	return api.FuncDecl{Params: l[i].Params, Result: l[i].Result}, member(t, c.Name), true
}
