package body

import (
	"strings"

	"quoin/api"
	"quoin/sets"
	"quoin/term"
	"quoin/value"
)

// checker goes through a function's body from its first statement to its last one.
type checker struct {
	scope  api.Scope          // that of the whole body, without variables
	wanted api.Type           // what is to be returned
	vars   map[string]api.Var // those that can be seen now, of each name the last one
	wrong  []api.Diag
	uses   []api.Use
}

// declarations are the names that a block declares, with what it hides by each of them.
type declarations map[string]hidden

// hidden is the variable that a name meant ahead of a block, if it meant one.
type hidden struct {
	variable api.Var
	is       bool
}

func (c *checker) report(at, code int) {
	c.wrong = append(c.wrong, api.Diag{At: at, Code: code})
}

// declare lets a name mean a further variable from here on.
func (c *checker) declare(name string, t api.Type, at int) {
	c.vars[name] = api.Var{Name: name, T: t, At: at}
}

// block checks statements one after the other; behind them, what they declared can't be seen any more.
func (c *checker) block(l []api.Stmt) {
	declared := declarations{}
	for i := range l {
		c.statement(&l[i], declared)
	}
	for name, before := range declared {
		if before.is {
			c.vars[name] = before.variable
		} else {
			delete(c.vars, name)
		}
	}
}

// statement checks one of a block that has declared names till then.
func (c *checker) statement(st *api.Stmt, declared declarations) {
	switch st.Kind {
	case api.SLet:
		c.let(st, declared)
	case api.SSet:
		c.set(st)
	case api.SReturn:
		c.returned(st)
	case api.SIf, api.SFor:
		c.condition(&st.X)
		within(st, c.block)
	case api.SExpr:
		c.typed(&st.X)
	}
}

// within checks the blocks of a statement, in order.
func within(st *api.Stmt, check func([]api.Stmt)) {
	check(st.Body)
	if st.Kind == api.SIf && st.Has {
		check(st.Else)
	}
}

// let checks a declaration. The variable is there whatever is wrong with it.
func (c *checker) let(st *api.Stmt, declared declarations) {
	t := c.typed(&st.X)
	if t.Kind == api.KNone {
		c.report(st.X.At, api.DType)
		t = api.Type{}
	}
	if _, twice := declared[st.Name]; twice {
		c.report(st.At, api.DTwice)
	} else {
		v, is := c.vars[st.Name]
		declared[st.Name] = hidden{v, is}
	}
	c.declare(st.Name, t, st.At)
}

// set checks a variable that is given another value, and uses it.
func (c *checker) set(st *api.Stmt) {
	t := c.typed(&st.X)
	v, is := c.vars[st.Name]
	if !is {
		c.report(st.At, api.DName)
		return
	}
	c.uses = append(c.uses, api.Use{
		At:  st.At,
		End: st.At + len(st.Name),
		// Relies on it that nothing is put in a type's place where there is nothing to be put: this is a copy.
		T:   term.Subst(v.T, nil),
		Def: api.Def{Name: strings.Clone(v.Name), At: v.At},
	})
	if !sets.Assign(c.scope, t, v.T) {
		c.report(st.X.At, api.DType)
	}
}

// returned checks whether what is returned is what is wanted.
func (c *checker) returned(st *api.Stmt) {
	nothing := c.wanted.Kind == api.KNone
	if !st.Has {
		if !nothing {
			c.report(st.At, api.DReturn)
		}
		return
	}
	t := c.typed(&st.X)
	switch {
	case nothing:
		c.report(st.X.At, api.DReturn)
	case !sets.Assign(c.scope, t, c.wanted):
		c.report(st.X.At, api.DType)
	}
}

// condition checks what a branch or a loop depends on.
func (c *checker) condition(x *api.Expr) {
	if t := c.typed(x); t.Kind != api.KBool && t.Kind != api.KBad {
		c.report(x.At, api.DType)
	}
}

// typed is an expression's type. It is told of the variables that the expression names alone: it does not depend on the others, of which there may be many.
func (c *checker) typed(x *api.Expr) api.Type {
	s := c.scope
	s.Vars = c.named(x, nil)
	t, wrong, uses := value.Expr(s, *x)
	c.wrong = append(c.wrong, wrong...)
	c.uses = append(c.uses, uses...)
	return t
}

// named adds the variables that an expression names to others.
func (c *checker) named(x *api.Expr, vars []api.Var) []api.Var {
	if v, is := c.vars[x.Name]; is && x.Kind == api.EName {
		vars = append(vars, v)
	}
	for i := range x.Args {
		vars = c.named(&x.Args[i], vars)
	}
	return vars
}
