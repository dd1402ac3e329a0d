package term_test

import (
	"fmt"
	"math"
	"reflect"
	"regexp"
	"slices"
	"strconv"
	"strings"
	"testing"
	"unsafe"

	"quoin/api"
	"quoin/lex"
	"quoin/term"
)

// keywords are the words of chapter 2.
func keywords() []string {
	return []string{"package", "import", "type", "struct", "interface", "func", "let", "if", "else", "for", "return", "new", "true", "false", "int", "bool", "text"}
}

// plain are the Kinds that use no field.
func plain() []int {
	return []int{api.KBad, api.KInt, api.KBool, api.KText, api.KNone}
}

// unknown are numbers that are no Kind.
func unknown() []int {
	return []int{-1, 8, 9, -2, 255, 256, math.MaxInt, math.MinInt}
}

func ofKind(kind int) api.Type { return api.Type{Kind: kind} }

func named(pack, name string) api.Type { return api.Type{Kind: 4, Pkg: pack, Name: name} }

func list(args ...api.Type) api.Type { return api.Type{Kind: 5, Args: args} }

func param(n int, name string, args ...api.Type) api.Type {
	return api.Type{Kind: 6, N: n, Name: name, Args: args}
}

// nested is a type within so many lists.
func nested(t api.Type, lists int) api.Type {
	for range lists {
		t = list(t)
	}
	return t
}

// The model: each promise to the letter.

var nameForm = regexp.MustCompile(`^[A-Za-z_][A-Za-z0-9_]{0,39}\z`)

func modelName(s string) bool {
	return nameForm.MatchString(s) && !slices.Contains(keywords(), s)
}

// depth is how many lists lie in one another.
func depth(t api.Type) int {
	deep := 0
	for _, arg := range t.Args {
		deep = max(deep, depth(arg))
	}
	if t.Kind == 5 {
		deep++
	}
	return deep
}

func modelCheck(t api.Type) bool {
	if t.Kind < 0 || t.Kind > 7 || depth(t) > 30 {
		return false
	}
	used := map[int]string{4: "PN", 5: "A", 6: "nN"}[t.Kind]
	uses := func(field string) bool { return strings.Contains(used, field) }
	if !uses("P") && t.Pkg != "" || !uses("N") && t.Name != "" || !uses("n") && t.N != 0 || !uses("A") && len(t.Args) > 0 {
		return false
	}
	if uses("P") && !modelName(t.Pkg) || uses("N") && !modelName(t.Name) || uses("n") && (t.N < 0 || t.N > 15) {
		return false
	}
	return !uses("A") || len(t.Args) == 1 && modelCheck(t.Args[0])
}

func modelSame(a, b api.Type) bool {
	if a.Kind != b.Kind {
		return false
	}
	odd := a.Kind < 0 || a.Kind > 7
	if (odd || a.Kind == 4) && (a.Pkg != b.Pkg || a.Name != b.Name) || (odd || a.Kind == 6) && a.N != b.N {
		return false
	}
	if !odd && a.Kind != 5 {
		return true
	}
	if len(a.Args) != len(b.Args) {
		return false
	}
	for i := range a.Args {
		if !modelSame(a.Args[i], b.Args[i]) {
			return false
		}
	}
	return true
}

func modelText(t api.Type) string {
	switch t.Kind {
	case 1:
		return "int"
	case 2:
		return "bool"
	case 3:
		return "text"
	case 4:
		if t.Pkg == "" {
			return t.Name
		}
		return t.Pkg + "." + t.Name
	case 5:
		if len(t.Args) == 0 {
			return "[]?"
		}
		return "[]" + modelText(t.Args[0])
	case 6:
		return t.Name
	case 7:
		return "none"
	}
	return "?"
}

func modelSubst(t api.Type, args []api.Type) api.Type {
	for n, arg := range args {
		if t.Kind == 6 && t.N == n {
			return arg
		}
	}
	within := t.Args
	t.Args = nil
	for _, part := range within {
		t.Args = append(t.Args, modelSubst(part, args))
	}
	return t
}

func modelParams(t api.Type) []int {
	met := map[int]bool{}
	gather(t, met)
	var numbers []int
	for n := range met {
		numbers = append(numbers, n)
	}
	slices.Sort(numbers)
	return numbers
}

func gather(t api.Type, met map[int]bool) {
	if t.Kind == 6 {
		met[t.N] = true
	}
	for _, arg := range t.Args {
		gather(arg, met)
	}
}

// equal tells whether two types have all fields alike; an empty list may be nil or not.
func equal(a, b api.Type) bool {
	return a.Kind == b.Kind && a.Pkg == b.Pkg && a.Name == b.Name && a.N == b.N && slices.EqualFunc(a.Args, b.Args, equal)
}

// told is the beginning of what there is of something: types may be too large to be told whole.
func told(x any) string {
	return fmt.Sprintf("%.600s", fmt.Sprintf("%+v", x))
}

func wantName(t *testing.T, s string, want bool) {
	t.Helper()
	if got := term.Name(s); got != want || modelName(s) != want {
		t.Fatalf("Name(%q): %v; model %v; want %v", s, got, modelName(s), want)
	}
}

func wantCheck(t *testing.T, x api.Type, want bool) {
	t.Helper()
	if got := term.Check(x); got != want || modelCheck(x) != want {
		t.Fatalf("Check(%s): %v; model %v; want %v", told(x), got, modelCheck(x), want)
	}
}

// wantSame asks both ways round.
func wantSame(t *testing.T, a, b api.Type, want bool) {
	t.Helper()
	if term.Same(a, b) != want || term.Same(b, a) != want || modelSame(a, b) != want {
		t.Fatalf("Same of %s and %s: %v; turned %v; model %v; want %v", told(a), told(b), term.Same(a, b), term.Same(b, a), modelSame(a, b), want)
	}
}

func wantText(t *testing.T, x api.Type, want string) {
	t.Helper()
	if got := term.Text(x); got != want || modelText(x) != want {
		t.Fatalf("Text(%s): %.300q; model %.300q; want %.300q", told(x), got, modelText(x), want)
	}
}

func wantSubst(t *testing.T, x api.Type, args []api.Type, want api.Type) {
	t.Helper()
	if got := term.Subst(x, args); !equal(got, want) || !equal(modelSubst(x, args), want) {
		t.Fatalf("Subst(%s, %s): %s; model %s; want %s", told(x), told(args), told(got), told(modelSubst(x, args)), told(want))
	}
}

func wantParams(t *testing.T, x api.Type, want ...int) {
	t.Helper()
	if got := term.Params(x); !slices.Equal(got, want) || !slices.Equal(modelParams(x), want) {
		t.Fatalf("Params(%s): %s; model %s; want %s", told(x), told(got), told(modelParams(x)), told(want))
	}
}

// against holds all functions that take one type against the model.
func against(t *testing.T, x api.Type, args []api.Type) {
	t.Helper()
	wantCheck(t, x, modelCheck(x))
	wantSame(t, x, x, true)
	wantText(t, x, modelText(x))
	wantSubst(t, x, args, modelSubst(x, args))
	wantSubst(t, x, nil, x)
	wantParams(t, x, modelParams(x)...)
}

// The chapter's examples.
func TestExamples(t *testing.T) {
	wantText(t, list(named("a", "T")), "[]a.T")
	wantText(t, ofKind(api.KNone), "none")
	wantText(t, param(1, "P"), "P")
	wantSubst(t, list(param(0, "P")), []api.Type{ofKind(api.KInt)}, list(ofKind(api.KInt)))
	wantSubst(t, param(1, "P"), []api.Type{ofKind(api.KInt)}, param(1, "P"))
	wantSame(t, param(0, "P"), param(0, "Q"), true)
	wantCheck(t, named("a", "int"), false)
}

// P9.1: names of all lengths around the limits.
func TestNameLengths(t *testing.T) {
	wantName(t, "", false)
	for n := 1; n <= 100; n++ {
		for _, s := range []string{"a", "Z", "_"} {
			wantName(t, strings.Repeat(s, n), n <= 40)
		}
	}
	for _, s := range []string{"a1", "_0", "Z_9"} {
		long := strings.Repeat(s, 40)
		for _, n := range []int{2, 38, 39, 40, 41, 42} {
			wantName(t, long[:n], n <= 40)
		}
	}
	wantName(t, strings.Repeat("a", 1<<20), false)
	wantName(t, strings.Repeat("a", 40)+" ", false)
	wantName(t, strings.Repeat("a", 40)+"\x00", false)
	wantName(t, strings.Repeat("a", 39)+" ", false)
	wantName(t, strings.Repeat("é", 20), false)
}

// P9.1: each byte alone, ahead, behind and between; all pairs of bytes.
func TestNameBytes(t *testing.T) {
	const letters = "ABCDEFGHIJKLMNOPQRSTUVWXYZabcdefghijklmnopqrstuvwxyz_"
	const digits = "0123456789"
	for b := range 256 {
		s := string([]byte{byte(b)})
		letter, digit := strings.Contains(letters, s), strings.Contains(digits, s)
		wantName(t, s, letter)
		for _, other := range []string{"x", "_", "x1", strings.Repeat("x", 38)} {
			wantName(t, s+other, letter)
			wantName(t, other+s, letter || digit)
			wantName(t, other+s+"y", letter || digit)
			wantName(t, "1"+other+s, false)
		}
		for c := range 256 {
			pair := string([]byte{byte(b), byte(c)})
			wantName(t, pair, modelName(pair))
		}
	}
	for _, s := range []string{"é", "aé", "éa", "ä1", "λ", "x٣", "ａ", "\xff", "a\xc3", "a b", " a", "a ", "a\n", "\na", "a.b", "a//", "\"a\"", "-1", "0", "00", "0x", "1a"} {
		wantName(t, s, false)
	}
}

// P9.1: each keyword, and what is nearly one.
func TestNameKeywords(t *testing.T) {
	for _, word := range keywords() {
		if !lex.Word(word) {
			t.Errorf("%q is no keyword", word)
		}
		wantName(t, word, false)
		wantName(t, word+"s", true)
		wantName(t, word+"1", true)
		wantName(t, word+"_", true)
		wantName(t, "_"+word, true)
		wantName(t, "a"+word, true)
		wantName(t, word+word, true)
		wantName(t, strings.ToUpper(word), true)
		wantName(t, strings.ToUpper(word[:1])+word[1:], true)
		wantName(t, word+" ", false)
		wantName(t, " "+word, false)
		wantName(t, "1"+word, false)
		if cut := word[:len(word)-1]; !slices.Contains(keywords(), cut) {
			wantName(t, cut, true)
		}
	}
	for _, s := range []string{"none", "nil", "var", "map", "len", "string", "break", "void", "param", "named", "list"} {
		wantName(t, s, true)
	}
}

// valid are types of each Kind that are valid.
func valid() []api.Type {
	long := strings.Repeat("x", 40)
	l := []api.Type{named("a", "T"), named("_", "_"), named(long, long), named("T", "a1")}
	for _, kind := range plain() {
		l = append(l, ofKind(kind))
	}
	for n := range 16 {
		l = append(l, param(n, "P"), param(n, "_"+strconv.Itoa(n)), param(n, long))
	}
	for _, x := range slices.Clone(l) {
		l = append(l, list(x), nested(x, 2))
	}
	return l
}

// changed is a type with one field set to another value.
type changed struct {
	field string
	x     api.Type
}

// changes are all of those by which a type may differ in one field; not in Kind.
func changes(x api.Type) []changed {
	var l []changed
	with := func(field string, change func(x *api.Type)) {
		other := x
		other.Args = slices.Clone(x.Args)
		change(&other)
		l = append(l, changed{field, other})
	}
	for _, s := range []string{"", "b", "T", "int", "\x00", x.Pkg + "x", x.Name + "x"} {
		if s != x.Pkg {
			with("Pkg", func(x *api.Type) { x.Pkg = s })
		}
		if s != x.Name {
			with("Name", func(x *api.Type) { x.Name = s })
		}
	}
	for _, n := range []int{0, 1, -1, 15, 16, 1 << 8, 1 << 16, 1 << 32, math.MaxInt, math.MinInt} {
		if n != x.N {
			with("N", func(x *api.Type) { x.N = n })
		}
	}
	for _, arg := range []api.Type{{}, ofKind(1), param(0, "P"), list(ofKind(1)), ofKind(-1)} {
		with("Args", func(x *api.Type) { x.Args = append(x.Args, arg) })
	}
	return l
}

// P9.1: each Kind, valid, and with one field more set that it does not use.
func TestCheckFields(t *testing.T) {
	used := map[int][]string{4: {"Pkg", "Name"}, 5: {"Args"}, 6: {"N", "Name"}}
	for _, x := range valid() {
		wantCheck(t, x, true)
		x.Args = append([]api.Type{}, x.Args...)
		wantCheck(t, x, true)
		for _, c := range changes(x) {
			if !slices.Contains(used[x.Kind], c.field) {
				wantCheck(t, c.x, false)
				wantCheck(t, list(c.x), false)
			}
			wantCheck(t, c.x, modelCheck(c.x))
		}
	}
	for _, kind := range unknown() {
		for _, x := range valid() {
			x.Kind = kind
			wantCheck(t, x, false)
			wantCheck(t, list(x), false)
			wantCheck(t, nested(x, 30), false)
		}
	}
}

// P9.1: names that are none, and numbers, of a KNamed and a KParam.
func TestCheckNames(t *testing.T) {
	long := strings.Repeat("x", 41)
	for _, s := range append(keywords(), "", " ", "1", "1a", "a b", "a.b", "a\x00", "é", "a\xff", long, strings.Repeat("1", 40)) {
		for _, x := range []api.Type{named(s, "T"), named("a", s), named(s, s), param(0, s), param(15, s)} {
			wantCheck(t, x, false)
			wantCheck(t, list(x), false)
			wantCheck(t, nested(x, 30), false)
		}
	}
	for _, s := range []string{"a", "_", "a1", "none", "Int", long[:40]} {
		for _, x := range []api.Type{named(s, "T"), named("a", s), named(s, s), param(0, s), param(15, s)} {
			wantCheck(t, x, true)
			wantCheck(t, list(x), true)
		}
	}
	for n, want := range map[int]bool{-1: false, 0: true, 1: true, 14: true, 15: true, 16: false, 17: false, 1 << 8: false, 1 << 32: false, math.MaxInt: false, math.MinInt: false} {
		wantCheck(t, param(n, "P"), want)
		wantCheck(t, nested(param(n, "P"), 2), want)
	}
}

// P9.1: how many arguments a list has, and how many lists lie in one another.
func TestCheckLists(t *testing.T) {
	whole, wrong := ofKind(1), named("", "T")
	wantCheck(t, list(), false)
	wantCheck(t, api.Type{Kind: 5, Args: []api.Type{}}, false)
	wantCheck(t, list(whole), true)
	wantCheck(t, list(wrong), false)
	wantCheck(t, list(whole, whole), false)
	wantCheck(t, list(whole, wrong), false)
	wantCheck(t, list(list(whole), list(whole)), false)
	wantCheck(t, list(list()), false)
	wantCheck(t, list(list(whole, whole)), false)
	wantCheck(t, nested(list(), 29), false)
	wantCheck(t, list(slices.Repeat([]api.Type{whole}, 5000)...), false)
	for _, x := range []api.Type{whole, {}, ofKind(7), named("a", "T"), param(15, "P")} {
		for lists := range 40 {
			wantCheck(t, nested(x, lists), lists <= 30)
		}
		wantCheck(t, nested(x, 1<<16-1), false)
	}
	for lists := range 32 {
		wantCheck(t, nested(wrong, lists), false)
		wantCheck(t, nested(ofKind(8), lists), false)
	}
}

// P9.1: a list that holds itself has more lists in one another than may be.
func TestCheckEndless(t *testing.T) {
	args := make([]api.Type, 1)
	args[0] = list(args...) // which has args themselves, not a copy
	if term.Check(args[0]) {
		t.Error("valid")
	}
}

// P9.2: two types that are alike but for one field, for each Kind and each field.
func TestSameFields(t *testing.T) {
	counts := map[int][]string{4: {"Pkg", "Name"}, 5: {"Args"}, 6: {"N"}}
	for _, kind := range unknown() {
		counts[kind] = []string{"Pkg", "Name", "N", "Args"}
	}
	for _, kind := range slices.Concat(plain(), unknown(), []int{4, 5, 6}) {
		for _, args := range [][]api.Type{nil, {{}}, {ofKind(1), ofKind(2)}, {list(ofKind(1)), list(), named("a", "T")}} {
			for _, x := range []api.Type{{}, {Pkg: "a", Name: "T", N: 3}, {Name: "P", N: -1}, {Pkg: "p"}} {
				x.Kind, x.Args = kind, args
				wantSame(t, x, x, true)
				for _, c := range changes(x) {
					alike := !slices.Contains(counts[kind], c.field)
					wantSame(t, x, c.x, alike)
					wantSame(t, list(x), list(c.x), alike)
					wantSame(t, nested(x, 3), nested(c.x, 3), alike)
				}
			}
		}
	}
}

// P9.2: types of different Kinds are never the same, whatever else is alike.
func TestSameKinds(t *testing.T) {
	kinds := slices.Concat(plain(), unknown(), []int{4, 5, 6})
	for _, x := range []api.Type{{}, {Pkg: "a", Name: "T", N: 3, Args: []api.Type{{}}}} {
		for i, a := range kinds {
			for k, b := range kinds {
				one, other := x, x
				one.Kind, other.Kind = a, b
				wantSame(t, one, other, i == k)
				wantSame(t, list(one), list(other), i == k)
				wantSame(t, list(x, one, x), list(x, other, x), i == k)
			}
		}
	}
}

// P9.2: the arguments of lists, and of unknown Kinds: how many, and which ones.
func TestSameArgs(t *testing.T) {
	one, two := ofKind(1), ofKind(2)
	for _, kind := range append(unknown(), 5) {
		of := func(args ...api.Type) api.Type { return api.Type{Kind: kind, Args: args} }
		rows := [][]api.Type{{}, {one}, {two}, {one, one}, {one, two}, {two, one}, {two, two}, {one, two, one}, {of()}, {of(one)}, {of(two)}, {of(one), one}, {of(one, one)}, {of(of(one))}, {of(of())}}
		for i, a := range rows {
			for k, b := range rows {
				wantSame(t, of(a...), of(b...), i == k)
				wantSame(t, list(of(a...), one), list(of(b...), one), i == k)
			}
		}
		wantSame(t, of(), api.Type{Kind: kind, Args: []api.Type{}}, true)
		wantSame(t, of(param(0, "P"), one), of(param(0, "Q"), one), true)
		wantSame(t, of(one, param(0, "P")), of(one, param(1, "P")), false)
		wantSame(t, of(param(0, "P", one)), of(param(0, "P", two)), true)
		wantSame(t, of(ofKind(-3), ofKind(8)), of(ofKind(-3), ofKind(8)), true)
		many := slices.Repeat([]api.Type{one}, 1000)
		wantSame(t, of(many...), of(many...), true)
		wantSame(t, of(many...), of(many[1:]...), false)
		wantSame(t, of(append(slices.Clone(many), one)...), of(append(slices.Clone(many), two)...), false)
	}
	wantSame(t, list(named("a", "T")), named("a", "T"), false)
	wantSame(t, list(named("a", "T")), list(named("a", "T")), true)
	wantSame(t, list(named("ab", "T")), list(named("a", "bT")), false)
}

// P9.3: each Kind, and unknown ones, alone and in lists.
func TestText(t *testing.T) {
	rows := map[string][]api.Type{
		"?":       {{}, {Kind: 0, Pkg: "a", Name: "T", N: 1, Args: []api.Type{ofKind(1)}}},
		"int":     {ofKind(1), {Kind: 1, Pkg: "a", Name: "T", N: 1, Args: []api.Type{ofKind(2)}}},
		"bool":    {ofKind(2), {Kind: 2, Pkg: "a", Name: "T", N: 1, Args: []api.Type{ofKind(3)}}},
		"text":    {ofKind(3), {Kind: 3, Pkg: "a", Name: "T", N: 1, Args: []api.Type{ofKind(1)}}},
		"a.T":     {named("a", "T"), {Kind: 4, Pkg: "a", Name: "T", N: 1, Args: []api.Type{ofKind(1)}}, named("", "a.T")},
		"T":       {named("", "T"), param(0, "T"), param(-1, "T"), {Kind: 6, Pkg: "a", Name: "T", Args: []api.Type{ofKind(1)}}},
		"a.":      {named("a", "")},
		"":        {named("", ""), param(1, "")},
		".T":      {named("", ".T"), param(2, ".T")},
		"none":    {ofKind(7), {Kind: 7, Pkg: "a", Name: "T", N: 1, Args: []api.Type{ofKind(1)}}},
		"\x00.\n": {named("\x00", "\n")},
		"[]?":     {list(), list(api.Type{}), {Kind: 5, Args: []api.Type{}}, {Kind: 5, Pkg: "a", Name: "T", N: 1}, list(ofKind(8)), list(api.Type{}, ofKind(1))},
		"[]int":   {list(ofKind(1)), list(ofKind(1), ofKind(2)), {Kind: 5, Pkg: "a", Name: "T", N: 1, Args: []api.Type{ofKind(1)}}, list(ofKind(1), list(ofKind(2)))},
		"[][]a.T": {list(list(named("a", "T"))), list(list(named("a", "T"), ofKind(1)), ofKind(2))},
		"[][]?":   {list(list()), list(list(), ofKind(1))},
		"[]none":  {list(ofKind(7))},
		"[]P":     {list(param(3, "P"))},
		"\xff\xfe": {
			param(0, "\xff\xfe"), named("", "\xff\xfe"),
		},
	}
	for _, kind := range unknown() {
		rows["?"] = append(rows["?"], ofKind(kind), api.Type{Kind: kind, Pkg: "a", Name: "T", N: 1, Args: []api.Type{ofKind(1)}})
	}
	for want, l := range rows {
		for _, x := range l {
			wantText(t, x, want)
			wantText(t, list(x), "[]"+want)
			wantText(t, list(x, ofKind(2)), "[]"+want)
			wantText(t, nested(x, 40), strings.Repeat("[]", 40)+want)
		}
	}
	long := strings.Repeat("x", 1<<16)
	wantText(t, list(named(long, long)), "[]"+long+"."+long)
}

// P9.4: no arguments, and fewer and more than there are parameters.
func TestSubstCounts(t *testing.T) {
	x := list(param(0, "P"), param(1, "Q"), param(2, "R"), param(0, "S"))
	one, two, three, four := ofKind(1), named("a", "T"), list(ofKind(3)), ofKind(7)
	wantSubst(t, x, nil, x)
	wantSubst(t, x, []api.Type{}, x)
	wantSubst(t, x, []api.Type{one}, list(one, param(1, "Q"), param(2, "R"), one))
	wantSubst(t, x, []api.Type{one, two}, list(one, two, param(2, "R"), one))
	wantSubst(t, x, []api.Type{one, two, three}, list(one, two, three, one))
	wantSubst(t, x, []api.Type{one, two, three, four}, list(one, two, three, one))
	wantSubst(t, x, []api.Type{{}, {}, {}}, list(api.Type{}, api.Type{}, api.Type{}, api.Type{}))
	many := slices.Repeat([]api.Type{one}, 100)
	for _, n := range []int{-1, -2, math.MinInt, 100, 101, 1 << 32, math.MaxInt} {
		wantSubst(t, param(n, "P"), many, param(n, "P"))
		wantSubst(t, list(param(n, "P"), param(99, "P")), many, list(param(n, "P"), one))
		wantSubst(t, param(n, "P"), nil, param(n, "P"))
	}
	for n := range 100 {
		many[n] = param(n, "Q", two)
		wantSubst(t, param(n, "P"), many, many[n])
		wantSubst(t, param(n, "P"), many[:n+1], many[n])
		wantSubst(t, param(n, "P"), many[:n], param(n, "P"))
		wantSubst(t, param(n, ""), many, many[n])
	}
}

// P9.4: what is put in is not substituted itself.
func TestSubstOnce(t *testing.T) {
	p, q := param(0, "P"), param(1, "Q")
	for _, args := range [][]api.Type{{q, p}, {p, p}, {list(p), list(q, p)}, {list(q), p}, {named("a", "T"), param(0, "P", p, q)}, {param(7, "R", q), list(list(p))}, {{Kind: 9, Args: []api.Type{p, q}}, q}} {
		wantSubst(t, p, args, args[0])
		wantSubst(t, q, args, args[1])
		wantSubst(t, list(p, q, p), args, list(args[0], args[1], args[0]))
		wantSubst(t, list(list(q), p), args, list(list(args[1]), args[0]))
		wantSubst(t, list(q), args[:1], list(q))
	}
}

// P9.4: parameters in lists with several arguments, and within types of every Kind; a parameter that is replaced goes with what is within it.
func TestSubstWithin(t *testing.T) {
	args := []api.Type{ofKind(2), list(ofKind(3))}
	p, q, r := param(0, "P"), param(1, "Q"), param(2, "R")
	for _, kind := range slices.Concat(plain(), unknown(), []int{4, 5}) {
		of := func(within ...api.Type) api.Type {
			return api.Type{Kind: kind, Pkg: "a", Name: "T", N: 1, Args: within}
		}
		wantSubst(t, of(), args, of())
		wantSubst(t, of(p), args, of(args[0]))
		wantSubst(t, of(r, q, p, q), args, of(r, args[1], args[0], args[1]))
		wantSubst(t, of(ofKind(1), of(of(q), p), named("b", "U")), args, of(ofKind(1), of(of(args[1]), args[0]), named("b", "U")))
		wantSubst(t, list(of(list(p, of(q)))), args, list(of(list(args[0], of(args[1])))))
	}
	wantSubst(t, param(2, "R", p, list(q)), args, param(2, "R", args[0], list(args[1])))
	wantSubst(t, param(-1, "R", p, r), args, param(-1, "R", args[0], r))
	wantSubst(t, param(0, "P", q, r), args, args[0])
	wantSubst(t, param(1, "P", list(p)), args, args[1])
	wantSubst(t, param(1, "P", list(p)), args[:1], param(1, "P", list(args[0])))
	odd := api.Type{Kind: 6, Pkg: "a", Name: "P", N: 5, Args: []api.Type{p}}
	wantSubst(t, odd, args, api.Type{Kind: 6, Pkg: "a", Name: "P", N: 5, Args: []api.Type{args[0]}})
	odd.N = 1
	wantSubst(t, odd, args, args[1])
}

// P9.4: parameters that stand once, twice, in falling order, and anywhere; with negative numbers too.
func TestParams(t *testing.T) {
	p := func(n int) api.Type { return param(n, "P") }
	wantParams(t, p(0), 0)
	wantParams(t, list(p(3)), 3)
	wantParams(t, list())
	wantParams(t, list(p(1), p(1)), 1)
	wantParams(t, list(p(3), p(2), p(1), p(0)), 0, 1, 2, 3)
	wantParams(t, list(p(3), p(1), p(3), p(2), p(1), p(3)), 1, 2, 3)
	wantParams(t, list(param(2, "Q"), param(2, "P"), param(2, "")), 2)
	wantParams(t, p(-1), -1)
	wantParams(t, list(p(0), p(-1), p(7), p(-7), p(-1)), -7, -1, 0, 7)
	wantParams(t, list(p(math.MaxInt), p(10), p(9), p(math.MinInt), p(100)), math.MinInt, 9, 10, 100, math.MaxInt)
	wantParams(t, param(1, "P", p(0), list(p(2))), 0, 1, 2)
	wantParams(t, param(1, "P", param(1, "Q", p(1))), 1)
	wantParams(t, param(5, "P", p(4), param(3, "P", p(4), p(2)), p(5)), 2, 3, 4, 5)
	wantParams(t, list(list(list(p(1)), p(0)), list(p(4), list(p(2)))), 0, 1, 2, 4)
	for _, kind := range slices.Concat(plain(), unknown(), []int{4, 5}) {
		wantParams(t, api.Type{Kind: kind, Name: "P", N: 1})
		wantParams(t, api.Type{Kind: kind, N: 1, Args: []api.Type{p(3), ofKind(1), p(0), list(p(2)), p(3)}}, 0, 2, 3)
	}
}

// shapes are types of all Kinds with few values in each field, and lists of those.
func shapes() []api.Type {
	var flat []api.Type
	for kind := -1; kind <= 8; kind++ {
		for field := range 8 {
			flat = append(flat, api.Type{Kind: kind, Pkg: strings.Repeat("a", field&1), Name: strings.Repeat("T", field>>1&1), N: field >> 2})
		}
	}
	all := slices.Clone(flat)
	for i := 0; i < len(flat); i += 3 {
		for kind := -1; kind <= 8; kind++ {
			all = append(all, api.Type{Kind: kind, Args: flat[i : i+1]}, api.Type{Kind: kind, Name: "T", N: 1, Args: []api.Type{flat[i], flat[(i+7)%len(flat)]}})
		}
	}
	for _, i := range []int{9, 50, 77, 85, 93, 99, 130, 200, 300, 400} {
		all = append(all, list(all[i]), list(all[i], all[i+1]), list(list(all[i])), param(2, "P", all[i]), api.Type{Kind: 8, Args: []api.Type{all[i]}})
	}
	return all
}

// P9.1 to P9.5: all shapes, and all pairs of them.
func TestShapes(t *testing.T) {
	all := shapes()
	args := []api.Type{list(param(1, "Q")), ofKind(2)}
	count := 0
	for _, x := range all {
		against(t, x, args)
		against(t, x, args[:1])
		for _, y := range all {
			if same := modelSame(x, y); same != term.Same(x, y) {
				t.Fatalf("Same of %+v and %+v: %v", x, y, !same)
			} else if same {
				count++
			}
		}
	}
	if count < 2*len(all) {
		t.Errorf("too few that are the same: %d of %d", count, len(all))
	}
}

// dice are numbers in an order that a fixed rule shuffles.
type dice uint32

func (d *dice) below(n int) int {
	*d = *d*1664525 + 1013904223
	return int(uint64(*d>>8) * uint64(n) >> 24)
}

// grown is a type with so many levels at most.
func (d *dice) grown(levels int) api.Type {
	x := api.Type{Kind: d.below(10) - 1, Pkg: []string{"", "a", "b"}[d.below(3)], Name: []string{"", "T", "P"}[d.below(3)], N: d.below(5) - 1}
	if d.below(3) > 0 {
		x.Kind = 5 + d.below(2)
	}
	for range d.below(4) * min(levels, 1) {
		x.Args = append(x.Args, d.grown(levels-1))
	}
	return x
}

// varied is a type with a field changed here and there.
func (d *dice) varied(x api.Type) api.Type {
	x.Args = slices.Clone(x.Args)
	for i, arg := range x.Args {
		x.Args[i] = d.varied(arg)
	}
	if d.below(12) == 0 {
		l := changes(x)
		x = l[d.below(len(l))].x
	}
	return x
}

// P9.1 to P9.5: grown types.
func TestGrown(t *testing.T) {
	d := dice(1)
	same, replaced := 0, 0
	for range 6000 {
		x := d.grown(1 + d.below(5))
		y := d.varied(x)
		var args []api.Type
		for range d.below(5) {
			args = append(args, d.grown(2))
		}
		against(t, x, args)
		against(t, y, args)
		if wantSame(t, x, y, modelSame(x, y)); term.Same(x, y) && !equal(x, y) {
			same++
		}
		if !equal(term.Subst(x, args), x) {
			replaced++
		}
	}
	if same < 500 || replaced < 500 {
		t.Errorf("too few: %d are the same, %d are replaced", same, replaced)
	}
}

// P9.5: each type is the same as itself; what holds one way holds the other; the same of any three goes through.
func TestEquivalence(t *testing.T) {
	all := shapes()
	var some []api.Type
	for i := 0; i < len(all); i += 4 {
		some = append(some, all[i])
	}
	some = append(some, param(0, "P"), param(0, "Q"), param(0, "", ofKind(1)), list(param(0, "P")), list(param(0, "Q")), list(param(0, "P", ofKind(2))))
	through := 0
	for _, a := range some {
		if !term.Same(a, a) {
			t.Fatalf("not the same as itself: %+v", a)
		}
		for _, b := range some {
			ab := term.Same(a, b)
			if ab != term.Same(b, a) {
				t.Fatalf("only one way: %+v, %+v", a, b)
			}
			for _, c := range some {
				if ab && term.Same(b, c) {
					through++
					if !term.Same(a, c) {
						t.Fatalf("does not go through: %+v, %+v, %+v", a, b, c)
					}
				}
			}
		}
	}
	if through < 3*len(some) {
		t.Errorf("too few: %d of %d types", through, len(some))
	}
}

// renamed is a type whose parameters have the name P.
func renamed(x api.Type) api.Type {
	x.Args = slices.Clone(x.Args)
	for i, arg := range x.Args {
		x.Args[i] = renamed(arg)
	}
	if x.Kind == 6 {
		x.Name = "P"
	}
	return x
}

// P9.5: valid types that are the same have one text but for the names of type parameters.
func TestSameText(t *testing.T) {
	all := valid()
	for _, x := range slices.Clone(all) {
		all = append(all, nested(x, 28))
	}
	count := 0
	for _, a := range all {
		wantCheck(t, a, true)
		for _, b := range all {
			if !term.Same(a, b) {
				continue
			}
			count++
			if term.Text(renamed(a)) != term.Text(renamed(b)) {
				t.Fatalf("%+v and %+v have two texts", a, b)
			}
			if len(term.Params(a)) == 0 && term.Text(a) != term.Text(b) {
				t.Fatalf("%+v and %+v have two texts without parameters", a, b)
			}
		}
	}
	if count <= len(all) {
		t.Errorf("too few that are the same: %d", count)
	}
}

// P9.5: no arguments change nothing, in no field.
func TestSubstNothing(t *testing.T) {
	for _, x := range append(shapes(), valid()...) {
		for _, none := range [][]api.Type{nil, {}, make([]api.Type, 0, 3)} {
			if got := term.Subst(x, none); !reflect.DeepEqual(got, x) || !term.Same(got, x) {
				t.Fatalf("%+v: %+v", x, got)
			}
		}
	}
}

// deepest is how many levels lie in one another at most.
const deepest = 1 << 16

// P9.1 to P9.4: as many levels, and arguments, as the document's bound names.
func TestDeep(t *testing.T) {
	for _, kind := range []int{5, 4, 6, 8} {
		x, y, put := param(0, "P"), param(1, "P"), ofKind(1)
		for range deepest - 1 {
			x = api.Type{Kind: kind, N: 3, Args: []api.Type{x}}
			y = api.Type{Kind: kind, N: 3, Args: []api.Type{y}}
			put = api.Type{Kind: kind, N: 3, Args: []api.Type{put}}
		}
		if alike := kind == 4 || kind == 6; term.Same(x, y) != alike || !term.Same(x, term.Subst(x, nil)) {
			t.Errorf("%d: same", kind)
		}
		if term.Check(x) {
			t.Errorf("%d: valid", kind)
		}
		if kind == 5 && term.Text(x) != strings.Repeat("[]", deepest-1)+"P" {
			t.Errorf("%d: text", kind)
		}
		if got := term.Params(list(x, y)); got[0] != 0 || got[1] != 1 {
			t.Errorf("%d: %v", kind, got)
		}
		got := term.Subst(x, []api.Type{put})
		for range 2*deepest - 2 {
			if got.Kind != kind || len(got.Args) != 1 {
				t.Fatalf("%d: %d, of %d", kind, got.Kind, len(got.Args))
			}
			got = got.Args[0]
		}
		if got.Kind != 1 {
			t.Errorf("%d: %d within", kind, got.Kind)
		}
	}
	var wide []api.Type
	for n := range 200000 {
		wide = append(wide, param(n/2-7, "P"))
	}
	slices.Reverse(wide)
	numbers := term.Params(list(wide...))
	if len(numbers) != 100000 || numbers[0] != -7 || !slices.IsSorted(numbers) || !term.Same(list(wide...), list(wide...)) || term.Check(list(wide...)) {
		t.Errorf("many arguments: %d", len(numbers))
	}
	got := term.Subst(list(wide...), wide)
	for i, x := range wide {
		want := x
		if x.N >= 0 {
			want = wide[x.N]
		}
		if !equal(got.Args[i], want) {
			t.Fatalf("%s: %s", told(x), told(got.Args[i]))
		}
	}
}

// spared is a copy of a type whose lists' spare capacity holds more.
func spared(x api.Type) api.Type {
	args := make([]api.Type, 0, len(x.Args)+3)
	for _, arg := range x.Args {
		args = append(args, spared(arg))
	}
	for i := range 3 {
		args[:cap(args)][len(args)+i] = param(i, "spare", list(param(i+3, "spare")))
	}
	x.Args = args
	return x
}

// full is a copy of a type in which its lists' spare capacity counts too.
func full(x api.Type) api.Type {
	args := slices.Clone(x.Args[:cap(x.Args)])
	for i, arg := range args {
		args[i] = full(arg)
	}
	x.Args = args
	return x
}

// P9.1 to P9.4, R4, R5: types and arguments stay as they are, their spare capacity too, and this is not read.
func TestArguments(t *testing.T) {
	d := dice(5)
	for range 300 {
		bare, other := d.grown(4), []api.Type{d.grown(2), d.grown(2), d.grown(0)}
		x, y, args := spared(bare), spared(d.varied(bare)), spared(list(other...)).Args
		before := []api.Type{full(x), full(y), full(list(args...))}
		spare := full(list(args[:cap(args)]...))
		against(t, x, args)
		wantSubst(t, x, args, modelSubst(bare, other))
		wantSubst(t, x, args[:1], modelSubst(bare, other[:1]))
		wantParams(t, x, modelParams(bare)...)
		wantSame(t, x, y, modelSame(x, y))
		wantSame(t, x, bare, true)
		for _, s := range []string{x.Pkg, x.Name} {
			wantName(t, s, modelName(s))
		}
		if !reflect.DeepEqual([]api.Type{full(x), full(y), full(list(args...))}, before) || !reflect.DeepEqual(full(list(args[:cap(args)]...)), spare) {
			t.Fatalf("changed: %+v, %+v, %+v", x, y, args)
		}
	}
}

// span is where a list, with its spare capacity, lies.
type span struct{ begin, end uintptr }

// spans are those of all lists of a type.
func spans(x api.Type) []span {
	var l []span
	if all := x.Args[:cap(x.Args)]; len(all) > 0 {
		begin := uintptr(unsafe.Pointer(unsafe.SliceData(all)))
		l = append(l, span{begin, begin + uintptr(len(all))*unsafe.Sizeof(x)})
	}
	for _, arg := range x.Args {
		l = append(l, spans(arg)...)
	}
	return l
}

// R4: no two lists of a result share memory, and none shares it with an argument, spare capacity counted.
func TestNewMemory(t *testing.T) {
	p, q := param(0, "P"), param(1, "Q")
	shared := list(p, q)
	x := spared(list(p, q, p, shared, shared, list(p), named("a", "T"), param(9, "R", p)))
	args := spared(list(list(ofKind(1), list()), param(0, "P", q), p)).Args
	for _, call := range []func() api.Type{
		func() api.Type { return term.Subst(x, args) },
		func() api.Type { return term.Subst(x, args[:1]) },
		func() api.Type { return term.Subst(x, nil) },
		func() api.Type { return term.Subst(list(shared, shared), nil) },
		func() api.Type { return term.Subst(p, args) },
		func() api.Type { return term.Subst(list(p, p), []api.Type{shared}) },
	} {
		first, second := call(), call()
		taken := slices.Concat(spans(x), spans(list(args...)), spans(shared))
		for _, result := range []api.Type{first, second} {
			for _, s := range spans(result) {
				for _, other := range taken {
					if s.begin < other.end && other.begin < s.end {
						t.Fatalf("%+v: shared memory", result)
					}
				}
				taken = append(taken, s)
			}
		}
		if len(spans(first)) == 0 {
			t.Errorf("%+v: no lists", first)
		}
	}
	one, two := term.Params(x), term.Params(x)
	for i := range one[:cap(one)] {
		one[:cap(one)][i] = 77
	}
	if !slices.Equal(two, []int{0, 1, 9}) || !slices.Equal(term.Params(x), two) {
		t.Errorf("Params: %v", two)
	}
}

// strewn are all texts of a type.
func strewn(x api.Type) []string {
	l := []string{x.Pkg, x.Name}
	for _, arg := range x.Args {
		l = append(l, strewn(arg)...)
	}
	return l
}

// R4: a text that is answered does not keep the one that it was cut out of.
func TestNewTexts(t *testing.T) {
	text := strings.Clone("pack Named Param other")
	begin := uintptr(unsafe.Pointer(unsafe.StringData(text)))
	cut := strings.Fields(text)
	n, p := named(cut[0], cut[1]), param(0, cut[2])
	odd := api.Type{Kind: 8, Pkg: cut[3], Name: cut[1], Args: []api.Type{p}}
	var answers []string
	for _, x := range []api.Type{n, p, named("", cut[1]), list(n), list(p, odd)} {
		answers = append(answers, term.Text(x))
		answers = append(answers, strewn(term.Subst(x, nil))...)
		answers = append(answers, strewn(term.Subst(x, []api.Type{n}))...)
		answers = append(answers, strewn(term.Subst(x, []api.Type{odd, p}))...)
	}
	for _, s := range answers {
		if at := uintptr(unsafe.Pointer(unsafe.StringData(s))); s != "" && at >= begin && at < begin+uintptr(len(text)) {
			t.Errorf("%q is memory of the argument", s)
		}
	}
}

// R5: the same answers each time, whatever was asked before, and by however many at a time.
func TestAgain(t *testing.T) {
	type answer struct {
		name, valid, same bool
		text              string
		put               api.Type
		params            []int
	}
	d := dice(9)
	var all []api.Type
	for range 200 {
		all = append(all, d.grown(4))
	}
	ask := func(i int) answer {
		x, y := all[i], all[(i*7+1)%len(all)]
		return answer{term.Name(x.Name), term.Check(x), term.Same(x, y), term.Text(x), term.Subst(x, []api.Type{y, x}), term.Params(x)}
	}
	var want []answer
	for i := range all {
		want = append(want, ask(i))
	}
	for k := range 4 {
		t.Run(strconv.Itoa(k), func(t *testing.T) {
			t.Parallel()
			for range 10 {
				for i := range all {
					if got := ask(i); !reflect.DeepEqual(got, want[i]) {
						t.Fatalf("%+v: %+v; want %+v", all[i], got, want[i])
					}
				}
			}
		})
	}
}
