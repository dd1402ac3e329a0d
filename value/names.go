package value

import "quoin/api"

// own is the place of the own package.
const own = 0

// names are what names mean in a scope.
type names struct {
	packs     []api.Iface // the own one first
	vars      []api.Var
	last      func(name string) (int, bool) // of the variables, counted from the last one on
	imported  func(name string) (int, bool)
	other     func(name string) (int, bool)         // of the packages behind the own one
	functions map[int]func(name string) (int, bool) // of the packages of which some were asked for
}

// known is what names mean in a scope.
func known(s api.Scope) *names {
	n := &names{packs: s.W, vars: s.Vars, functions: map[int]func(string) (int, bool){}}
	if len(n.packs) == 0 {
		n.packs = make([]api.Iface, 1)
	}
	others := n.packs[1:]
	n.last = finding(len(s.Vars), func(i int) string { return s.Vars[len(s.Vars)-1-i].Name })
	n.imported = finding(len(s.Imports), func(i int) string { return s.Imports[i] })
	n.other = finding(len(others), func(i int) string { return others[i].Pkg })
	return n
}

// variable is the last one that has a name.
func (n *names) variable(name string) (api.Var, bool) {
	back, is := n.last(name)
	if !is {
		return api.Var{}, false
	}
	return n.vars[len(n.vars)-1-back], true
}

func (n *names) isVariable(name string) bool {
	_, is := n.last(name)
	return is
}

// isPackage tells whether an expression is the name of a package that is visible.
func (n *names) isPackage(x *api.Expr) bool {
	if x.Kind != api.EName || n.isVariable(x.Name) {
		return false
	}
	_, is := n.imported(x.Name)
	return is
}

// available is the place of the first package of a name, behind the own one.
func (n *names) available(name string) (int, bool) {
	i, is := n.other(name)
	return 1 + i, is
}

// function is the first one of a name that a package has.
func (n *names) function(p int, name string) (api.FuncDecl, bool) {
	l := n.packs[p].Funcs
	find, made := n.functions[p]
	if !made {
		find = finding(len(l), func(i int) string { return l[i].Name })
		n.functions[p] = find
	}
	i, is := find(name)
	if !is {
		return api.FuncDecl{}, false
	}
	return l[i], true
}

// finding makes what finds the first of so many names that is a wanted one. It goes over them once, however often it is asked, and no further than it must.
func finding(many int, name func(i int) string) func(wanted string) (int, bool) {
	first := map[string]int{}
	next := 0
	return func(wanted string) (int, bool) {
		for {
			if at, is := first[wanted]; is || next == many {
				return at, is
			}
			if _, twice := first[name(next)]; !twice {
				first[name(next)] = next
			}
			next++
		}
	}
}
