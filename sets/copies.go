package sets

import (
	"strings"

	"quoin/api"
	"quoin/term"
)

func copiedDecl(d api.TypeDecl) api.TypeDecl {
	return api.TypeDecl{
		Name:    strings.Clone(d.Name),
		Struct:  d.Struct,
		Fields:  each(d.Fields, copiedField),
		Methods: each(d.Methods, copiedMethod),
	}
}

func copiedField(f api.Field) api.Field {
	return api.Field{Name: strings.Clone(f.Name), T: copiedType(f.T)}
}

func copiedMethod(m api.Method) api.Method {
	return api.Method{Name: strings.Clone(m.Name), Params: each(m.Params, copiedType), Result: copiedType(m.Result)}
}

// copiedType relies on it that nothing is put in a type's place where there is nothing to be put.
func copiedType(t api.Type) api.Type {
	return term.Subst(t, nil)
}

// each has all elements copied.
func each[T any](l []T, copied func(T) T) []T {
	var all []T
	for _, element := range l {
		all = append(all, copied(element))
	}
	return all
}
