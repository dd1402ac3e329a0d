package sig

import (
	"slices"
	"strings"

	"quoin/api"
)

// names are what names mean in a scope.
type names struct {
	params  map[string]int // the numbers of type parameters
	imports map[string]int // the packages that are visible
	own     *pack
	others  map[string]*pack // those that are available
}

// known is what names mean in a scope.
func known(s api.Scope) names {
	itself := func(name string) string { return name }
	n := names{firsts(s.Names, itself), firsts(s.Imports, itself), &pack{}, map[string]*pack{}}
	if len(s.W) == 0 {
		return n
	}
	n.own = packOf(s.W[0])
	// From the last one on: the first one of a name is meant.
	for _, p := range slices.Backward(s.W[1:]) {
		n.others[p.Pkg] = packOf(p)
	}
	return n
}

// typed is the type that a text's means, and what is wrong with it.
func (n names) typed(x api.TypeX) (api.Type, api.Diag) {
	switch x.Kind {
	case api.XInt:
		return api.Type{Kind: api.KInt}, api.Diag{}
	case api.XBool:
		return api.Type{Kind: api.KBool}, api.Diag{}
	case api.XText:
		return api.Type{Kind: api.KText}, api.Diag{}
	case api.XName:
		return n.named(x)
	case api.XList:
		var element api.Type
		var wrong api.Diag
		if len(x.Args) > 0 {
			element, wrong = n.typed(x.Args[0])
		}
		return api.Type{Kind: api.KList, Args: []api.Type{element}}, wrong
	}
	return api.Type{}, api.Diag{}
}

// named is the type that a name means, and what is wrong with it.
func (n names) named(x api.TypeX) (api.Type, api.Diag) {
	if number, is := n.params[x.Name]; is && x.Pkg == "" {
		return api.Type{Kind: api.KParam, N: number, Name: strings.Clone(x.Name)}, api.Diag{}
	}
	undeclared := api.Diag{At: x.At, Code: api.DName}
	if _, visible := n.imports[x.Pkg]; !visible && x.Pkg != "" {
		return api.Type{}, undeclared
	}
	p := n.pack(x.Pkg)
	if p == nil {
		// What it declares can't be told; that it is not there is told of its import.
		return api.Type{}, api.Diag{}
	}
	if _, declared := p.find(x.Name); !declared {
		return api.Type{}, undeclared
	}
	return api.Type{Kind: api.KNamed, Pkg: strings.Clone(p.name), Name: strings.Clone(x.Name)}, api.Diag{}
}

// declared is what a type is declared to be. A package that imports its own name may declare what the import does: it is one type, and what it declares itself counts first.
func (n names) declared(t api.Type) (api.TypeDecl, bool) {
	for _, p := range []*pack{n.own, n.others[t.Pkg]} {
		if t.Kind != api.KNamed || p == nil || p.name != t.Pkg {
			continue
		}
		if at, is := p.find(t.Name); is {
			return p.types[at], true
		}
	}
	return api.TypeDecl{}, false
}

// pack is the package that what stands ahead of a type's name means; nil if it is not available.
func (n names) pack(name string) *pack {
	if name == "" {
		return n.own
	}
	return n.others[name]
}

// pack is a package whose types are found by their names.
type pack struct {
	name  string
	types []api.TypeDecl
	first map[string]int // each name's index; nil until it is asked for
}

func packOf(p api.Iface) *pack {
	return &pack{name: p.Pkg, types: p.Types}
}

// find is the index of the declared type with a name.
func (p *pack) find(name string) (int, bool) {
	if p.first == nil {
		p.first = firsts(p.types, func(t api.TypeDecl) string { return t.Name })
	}
	at, declared := p.first[name]
	return at, declared
}

// firsts gives each name the index of the first element that has it.
func firsts[T any](l []T, named func(T) string) map[string]int {
	first := make(map[string]int, len(l))
	for at, element := range slices.Backward(l) {
		first[named(element)] = at
	}
	return first
}
