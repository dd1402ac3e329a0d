package body

import (
	"slices"

	"quoin/api"
	"quoin/sets"
	"quoin/sig"
)

// begun is a checker that stands ahead of a function's body. What is wrong with the types that the function is declared with is told elsewhere.
func begun(s api.Scope, d api.Decl) *checker {
	outer := api.Scope{W: s.W, Imports: s.Imports}
	c := &checker{scope: outer, wanted: api.Type{Kind: api.KNone}, vars: map[string]api.Var{}}
	if d.Method {
		c.declare(d.Recv.Name, receiver(outer, d.Recv.T), d.Recv.At)
	} else {
		c.scope.Names, c.scope.Bounds = parameters(outer, d.Bounds)
	}
	for _, p := range d.Fields {
		t, _ := sig.Type(c.scope, p.T)
		c.declare(p.Name, t, p.At)
	}
	if d.Has {
		c.wanted, _ = sig.Type(c.scope, d.Result)
	}
	return c
}

// receiver is the type of a method's receiver: a struct of the own package, or one that could not be made out.
func receiver(s api.Scope, x api.TypeX) api.Type {
	t, _ := sig.Type(s, x)
	if d, is := sets.Find(s, t); is && d.Struct && t.Pkg == s.W[0].Pkg {
		return t
	}
	return api.Type{}
}

// parameters are the names and the bounds of type parameters.
func parameters(s api.Scope, l []api.Param) (names []string, bounds []api.Type) {
	for _, p := range l[:min(len(l), api.MaxBounds)] {
		if !slices.Contains(names, p.Name) {
			names = append(names, p.Name)
			bounds = append(bounds, bound(s, p.T))
		}
	}
	return names, bounds
}

// bound is an interface, or one that could not be made out.
func bound(s api.Scope, x api.TypeX) api.Type {
	t, _ := sig.Type(s, x)
	if !sets.Iface(s, t) {
		return api.Type{}
	}
	return t
}
