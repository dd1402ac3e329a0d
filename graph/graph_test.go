package graph_test

import (
	"bytes"
	"math/bits"
	"reflect"
	"slices"
	"strconv"
	"strings"
	"testing"
	"unsafe"

	"quoin/api"
	"quoin/graph"
)

func node(name string, imports ...string) api.Node { return api.Node{Name: name, Imports: imports} }

// nodes are those of a line: `a: b c; d` is a, which imports b and c, and d, which imports nothing.
func nodes(line string) []api.Node {
	var l []api.Node
	for piece := range strings.SplitSeq(line, ";") {
		name, imports, _ := strings.Cut(strings.TrimSpace(piece), ":")
		if name != "" {
			l = append(l, node(name, strings.Fields(imports)...))
		}
	}
	return l
}

func wantNames(t *testing.T, l []api.Node, what string, got, want []string) {
	t.Helper()
	if !slices.Equal(got, want) {
		t.Fatalf("%.300q: %s: %.300q; want %.300q", l, what, got, want)
	}
}

func wantOrder(t *testing.T, l []api.Node, order, stuck []string) {
	t.Helper()
	o, s := graph.Order(l)
	wantNames(t, l, "order", o, order)
	wantNames(t, l, "stuck", s, stuck)
}

func wantReady(t *testing.T, l []api.Node, done, want []string) {
	t.Helper()
	wantNames(t, l, "Ready with "+strconv.Quote(strings.Join(done, " ")), graph.Ready(l, done), want)
}

func wantUsers(t *testing.T, l []api.Node, name string, want []string) {
	t.Helper()
	wantNames(t, l, "Users of "+strconv.Quote(name), graph.Users(l, name), want)
}

// whole is what all four functions are to answer for a line of nodes: Ready with nothing done, Users of a.
type whole struct {
	line, order, stuck, cyclic, ready, usersOfA string
}

func wantWhole(t *testing.T, all ...whole) {
	t.Helper()
	for _, w := range all {
		l := nodes(w.line)
		wantOrder(t, l, strings.Fields(w.order), strings.Fields(w.stuck))
		wantNames(t, l, "Cyclic", graph.Cyclic(l), strings.Fields(w.cyclic))
		wantReady(t, l, nil, strings.Fields(w.ready))
		wantUsers(t, l, "a", strings.Fields(w.usersOfA))
		against(t, l)
	}
}

// The model: each promise to the letter, step by step.

func increasing(l []string) []string {
	slices.SortFunc(l, func(a, b string) int { return bytes.Compare([]byte(a), []byte(b)) })
	return l
}

// counting are the nodes of which none ahead has the same name.
func counting(l []api.Node) []api.Node {
	var c []api.Node
	for i, n := range l {
		if !slices.ContainsFunc(l[:i], func(other api.Node) bool { return other.Name == n.Name }) {
			c = append(c, n)
		}
	}
	return c
}

func namesOf(l []api.Node) []string {
	var names []string
	for _, n := range counting(l) {
		names = append(names, n.Name)
	}
	return increasing(names)
}

func modelReady(l []api.Node, done []string) []string {
	var ready []string
	names := namesOf(l)
	for _, n := range counting(l) {
		waits := func(name string) bool { return slices.Contains(names, name) && !slices.Contains(done, name) }
		if !slices.Contains(done, n.Name) && !slices.ContainsFunc(n.Imports, waits) {
			ready = append(ready, n.Name)
		}
	}
	return increasing(ready)
}

func modelOrder(l []api.Node) (order, stuck []string) {
	for {
		ready := modelReady(l, order)
		if len(ready) == 0 {
			break
		}
		order = append(order, ready[0])
	}
	for _, name := range namesOf(l) {
		if !slices.Contains(order, name) {
			stuck = append(stuck, name)
		}
	}
	return order, stuck
}

// reached tells for each name which ones can be reached from it through one or more imports.
func reached(l []api.Node) map[string]map[string]bool {
	to := map[string]map[string]bool{}
	names := namesOf(l)
	for _, n := range counting(l) {
		to[n.Name] = map[string]bool{}
		for _, i := range n.Imports {
			if slices.Contains(names, i) {
				to[n.Name][i] = true
			}
		}
	}
	for _, over := range names {
		for _, from := range names {
			for _, end := range names {
				if to[from][over] && to[over][end] {
					to[from][end] = true
				}
			}
		}
	}
	return to
}

func modelCyclic(l []api.Node) []string {
	var cyclic []string
	for name, to := range reached(l) {
		if to[name] {
			cyclic = append(cyclic, name)
		}
	}
	return increasing(cyclic)
}

func modelUsers(l []api.Node, name string) []string {
	var users []string
	for _, n := range counting(l) {
		if slices.Contains(n.Imports, name) {
			users = append(users, n.Name)
		}
	}
	return increasing(users)
}

// against holds all functions against the model: Ready with what is done at each time in order, Users of all names that stand there.
func against(t *testing.T, l []api.Node) {
	t.Helper()
	order, stuck := modelOrder(l)
	wantOrder(t, l, order, stuck)
	wantNames(t, l, "Cyclic", graph.Cyclic(l), modelCyclic(l))
	for i := range len(order) + 1 {
		wantReady(t, l, order[:i], modelReady(l, order[:i]))
		wantReady(t, l, order[i:], modelReady(l, order[i:]))
	}
	names := append(namesOf(l), "", "no such name")
	for _, n := range l {
		names = append(names, n.Imports...)
	}
	slices.Sort(names)
	for _, name := range slices.Compact(names) {
		wantUsers(t, l, name, modelUsers(l, name))
	}
}

// The chapter's examples.
func TestExamples(t *testing.T) {
	wantWhole(t,
		whole{line: "c: a b; b: a; a: x", order: "a b c", ready: "a", usersOfA: "b c"},
		whole{line: "a: b; b: a; c: b; d", order: "d", stuck: "a b c", cyclic: "a b", ready: "d", usersOfA: "b"},
		whole{line: "a: a", stuck: "a", cyclic: "a", usersOfA: "a"},
	)
	wantReady(t, nodes("a: b; b: a; c: b; d"), []string{"d"}, nil)
}

// P8.1 to P8.3: no nodes and one.
func TestFew(t *testing.T) {
	wantWhole(t,
		whole{},
		whole{line: "a", order: "a", ready: "a"},
		whole{line: "a: b", order: "a", ready: "a"},
		whole{line: "b: a", order: "b", ready: "b", usersOfA: "b"},
		whole{line: "a: b a", stuck: "a", cyclic: "a", usersOfA: "a"},
	)
	for _, none := range [][]api.Node{nil, {}} {
		wantOrder(t, none, nil, nil)
		wantNames(t, none, "Cyclic", graph.Cyclic(none), nil)
		for _, done := range [][]string{nil, {}, {""}, {"a", "b"}} {
			wantReady(t, none, done, nil)
		}
		wantUsers(t, none, "", nil)
		wantUsers(t, none, "a", nil)
	}
}

// P8.1 to P8.3: no imports, one and several, in increasing order and not.
func TestImports(t *testing.T) {
	wantWhole(t,
		whole{line: "a; b; c", order: "a b c", ready: "a b c"},
		whole{line: "c; a; b", order: "a b c", ready: "a b c"},
		whole{line: "a; b: a; c: b", order: "a b c", ready: "a", usersOfA: "b"},
		whole{line: "c; b: c; a: b", order: "c b a", ready: "c"},
		whole{line: "a: b; b: c; c", order: "c b a", ready: "c"},
		whole{line: "a; b: a; c: a; d: b c", order: "a b c d", ready: "a", usersOfA: "b c"},
		whole{line: "d: c b; c: a; b: a; a", order: "a b c d", ready: "a", usersOfA: "b c"},
		whole{line: "a: b c d; b: c d; c: d; d", order: "d c b a", ready: "d"},
		whole{line: "a: d c b; d; b: d c; c: d", order: "d c b a", ready: "d"},
		// What gets ready comes ahead of what was ready earlier, where its name is the lesser one.
		whole{line: "b; c; d; a: b", order: "b a c d", ready: "b c d", usersOfA: ""},
		whole{line: "m: z; z; a: m; n; b: a; y: b", order: "n z m a b y", ready: "n z", usersOfA: "b"},
		whole{line: "e: a; d: a; c: b; b; a", order: "a b c d e", ready: "a b", usersOfA: "d e"},
	)
}

// P8.1 to P8.3: imports that are no node's name, that are named twice, and that are the node's own name.
func TestOddImports(t *testing.T) {
	wantWhole(t,
		whole{line: "a: x y; b: x", order: "a b", ready: "a b"},
		whole{line: "b: x a y; a: z", order: "a b", ready: "a", usersOfA: "b"},
		whole{line: "b: a a; a: x x", order: "a b", ready: "a", usersOfA: "b"},
		whole{line: "c: a b a b a; b: a a a; a", order: "a b c", ready: "a", usersOfA: "b c"},
		whole{line: "d: b a b c b; c: b; b: a; a", order: "a b c d", ready: "a", usersOfA: "b d"},
		whole{line: "a: b b; b: a a a; c: a", stuck: "a b c", cyclic: "a b", usersOfA: "b c"},
		whole{line: "a: a; b", order: "b", stuck: "a", cyclic: "a", ready: "b", usersOfA: "a"},
		whole{line: "a: a a b; b: c; c", order: "c b", stuck: "a", cyclic: "a", ready: "c", usersOfA: "a"},
		whole{line: "a: a; b: a b x; c: b", stuck: "a b c", cyclic: "a b", usersOfA: "a b"},
	)
}

// Of several nodes with the same name only the first one counts, for each of the functions.
func TestFirstCounts(t *testing.T) {
	wantWhole(t,
		whole{line: "b; a; b: b", order: "a b", ready: "a b"},
		whole{line: "b: b; a; b", order: "a", stuck: "b", cyclic: "b", ready: "a"},
		whole{line: "b: a; a; b: c; c; b", order: "a b c", ready: "a c", usersOfA: "b"},
		whole{line: "b: c; a; b: a; c", order: "a c b", ready: "a c"},
		whole{line: "b; b: a; a: b", order: "b a", ready: "b"},
		whole{line: "b: a; b; a: b; a", stuck: "a b", cyclic: "a b", usersOfA: "b"},
		whole{line: "c: a; a; c: c; a: c; a: a; b: c", order: "a c b", ready: "a", usersOfA: "c"},
		// The names of nodes that do not count are no further nodes, and what only they import has no users.
		whole{line: "x; x: a; x: b; b: x", order: "x b", ready: "x"},
		whole{line: "a: x; a: x; a", order: "a", ready: "a"},
	)
	l := nodes("b: c; a; b: a; c; c: b")
	wantReady(t, l, []string{"a"}, []string{"c"})
	wantReady(t, l, []string{"c"}, []string{"a", "b"})
	wantReady(t, l, []string{"b"}, []string{"a", "c"})
	wantUsers(t, l, "c", []string{"b"})
	wantUsers(t, l, "b", nil)
}

// R7: names are any bytes, and their order is bytewise.
func TestNames(t *testing.T) {
	names := []string{"", "\x00", "\n", " ", "A", "Z", "Za", "a", "a\x00", "a.b", "aa", "ab", "b", "\x7f", "\x80", "\xc3", "\xc3\xa9", "\xc3\xa9a", "\xe4\xb8\x96", "\xef\xbf\xbd", "\xf0\x9f\x98\x80", "\xff", "\xff\x00", "\xff\xff"}
	var apart, up, down, ring []api.Node
	for i, name := range names {
		apart = append(apart, node(name))
		up = append(up, node(name, names[max(i-1, 0):i]...))
		down = append(down, node(name, names[min(i+1, len(names)):min(i+2, len(names))]...))
		ring = append(ring, node(name, names[(i+1)%len(names)]))
	}
	turned := slices.Clone(names)
	slices.Reverse(turned)
	for _, turn := range []func([]api.Node){func([]api.Node) {}, slices.Reverse[[]api.Node]} {
		for _, l := range [][]api.Node{apart, up, down, ring} {
			turn(l)
			against(t, l)
		}
		wantOrder(t, apart, names, nil)
		wantOrder(t, up, names, nil)
		wantOrder(t, down, turned, nil)
		wantOrder(t, ring, nil, names)
		wantNames(t, ring, "Cyclic", graph.Cyclic(ring), names)
		wantReady(t, apart, nil, names)
		wantReady(t, up, names[:5], names[5:6])
	}
	for _, name := range names {
		var all []api.Node
		for _, user := range slices.Backward(names) {
			all = append(all, node(user, name))
		}
		wantUsers(t, all, name, names)
		wantUsers(t, all, name+"a\x00", nil)
		against(t, all)
	}
}

// P8.1 to P8.3: the empty name is a name as any other one.
func TestEmptyName(t *testing.T) {
	l := []api.Node{node("a", ""), node("", "b"), node("b")}
	wantOrder(t, l, []string{"b", "", "a"}, nil)
	wantReady(t, l, nil, []string{"b"})
	wantReady(t, l, []string{""}, []string{"a", "b"})
	wantUsers(t, l, "", []string{"a"})
	wantUsers(t, l, "b", []string{""})
	own := []api.Node{node("", ""), node("", "a"), node("a")}
	wantOrder(t, own, []string{"a"}, []string{""})
	wantNames(t, own, "Cyclic", graph.Cyclic(own), []string{""})
	wantUsers(t, own, "", []string{""})
	unknown := []api.Node{node("a", ""), node("b", "", "a")}
	wantOrder(t, unknown, []string{"a", "b"}, nil)
	wantUsers(t, unknown, "", []string{"a", "b"})
	wantReady(t, []api.Node{{}}, nil, []string{""})
	wantReady(t, []api.Node{{}}, []string{""}, nil)
	for _, l := range [][]api.Node{l, own, unknown, {{}}, {{}, {}}} {
		against(t, l)
	}
}

// P8.1: done are names of nodes and of none, once and twice, in any order, ready ahead of that or not.
func TestDone(t *testing.T) {
	l := nodes("d: c b; c: a; b: a x; a; e")
	for _, c := range []struct{ done, want string }{
		{"", "a e"},
		{"a", "b c e"},
		{"a a", "b c e"},
		{"e", "a"},
		{"a b", "c e"},
		{"c b a", "d e"},
		{"b c a c b", "d e"},
		{"a b c d", "e"},
		{"a b c d e", ""},
		{"e d c b a e d c b a", ""},
		{"x", "a e"},
		{"x y z", "a e"},
		{"x a", "b c e"},
		{"A aa", "a e"},
		{"c", "a e"},
		{"b c", "a d e"},
		{"d", "a e"},
		{"b c d", "a e"},
		{"e c b", "a d"},
	} {
		wantReady(t, l, strings.Fields(c.done), strings.Fields(c.want))
	}
	// An import that is in no cycle any more, as it is done.
	ring := nodes("a: b; b: c; c: a; d: d a; e: d")
	for _, c := range []struct{ done, want string }{{"", ""}, {"b", "a"}, {"a", "c"}, {"a b", "c"}, {"c", "b"}, {"a b c", ""}, {"d", "e"}, {"d a", "c e"}} {
		wantReady(t, ring, strings.Fields(c.done), strings.Fields(c.want))
	}
}

// P8.2, P8.3: cycles, what hangs on them, and what they hang on.
func TestCycles(t *testing.T) {
	wantWhole(t,
		whole{line: "a: a", stuck: "a", cyclic: "a", usersOfA: "a"},
		whole{line: "b: a; a: b", stuck: "a b", cyclic: "a b", usersOfA: "b"},
		whole{line: "b: c; a: b; c: a", stuck: "a b c", cyclic: "a b c", usersOfA: "c"},
		whole{line: "a: d; d: b; b: e; e: c; c: a", stuck: "a b c d e", cyclic: "a b c d e", usersOfA: "c"},
		// What hangs on a cycle, over others too.
		whole{line: "a: c; c: d; d: c; b: a", stuck: "a b c d", cyclic: "c d", usersOfA: "b"},
		whole{line: "e: d; c: b a; b: a b; a; d: c", order: "a", stuck: "b c d e", cyclic: "b", ready: "a", usersOfA: "b c"},
		// What a cycle hangs on.
		whole{line: "b: c a; c: b; a: d; d", order: "d a", stuck: "b c", cyclic: "b c", ready: "d", usersOfA: "b"},
		whole{line: "a: b e; b: a d; d: e; e; c: e", order: "e c d", stuck: "a b", cyclic: "a b", ready: "e", usersOfA: "b"},
		// Both.
		whole{line: "e: b; b: c a; c: b; a; d: e a; f", order: "a f", stuck: "b c d e", cyclic: "b c", ready: "a f", usersOfA: "b d"},
		// Two beside each other, and what hangs on both.
		whole{line: "a: b; b: a; c: d; d: c", stuck: "a b c d", cyclic: "a b c d", usersOfA: "b"},
		whole{line: "d: c; a: e; c: d; b; e: a; f: e d b; g: b", order: "b g", stuck: "a c d e f", cyclic: "a c d e", ready: "b", usersOfA: "e"},
		// One that hangs on the other: what lies between them is stuck, but not cyclic.
		whole{line: "a: b; b: a; c: b; d: c e; e: d", stuck: "a b c d e", cyclic: "a b d e", usersOfA: "b"},
		whole{line: "e: d; d: e; c: d; b: c a; a: b", stuck: "a b c d e", cyclic: "a b d e", usersOfA: "b"},
		whole{line: "a: a b; b: c; c: c", stuck: "a b c", cyclic: "a c", usersOfA: "a"},
		whole{line: "c: c b; b: a; a: a", stuck: "a b c", cyclic: "a c", usersOfA: "a b"},
		whole{line: "a: b c; b: a; c: d e; d: c; e: f; f: e g; g", order: "g", stuck: "a b c d e f", cyclic: "a b c d e f", ready: "g", usersOfA: "b"},
		// Two that share a node, and one with a way across.
		whole{line: "a: b c; b: a; c: a", stuck: "a b c", cyclic: "a b c", usersOfA: "b c"},
		whole{line: "a: b; b: c d; c: d; d: a", stuck: "a b c d", cyclic: "a b c d", usersOfA: "d"},
		// One that is closed only by a node that does not count, or by a name that none has.
		whole{line: "a: b; b; b: a", order: "b a", ready: "b"},
		whole{line: "a: b x; b: x", order: "b a", ready: "b"},
	)
}

// P8.3: Users of a node's name and of another one, and of one that is named twice.
func TestUsers(t *testing.T) {
	l := nodes("d: b x; c: a a x; b: a; a: aa; e: e a e; b: d; f")
	for _, c := range []struct{ name, want string }{
		{"a", "b c e"}, {"b", "d"}, {"c", ""}, {"d", ""}, {"e", "e"}, {"f", ""},
		{"x", "c d"}, {"aa", "a"}, {"y", ""}, {"", ""}, {"A", ""}, {"a ", ""}, {"x\x00", ""},
	} {
		wantUsers(t, l, c.name, strings.Fields(c.want))
	}
}

// subset are the names whose bits are set.
func subset(names []string, set int) []string {
	var l []string
	for i, name := range names {
		if set>>i&1 == 1 {
			l = append(l, name)
		}
	}
	return l
}

// P8.1 to P8.3: all graphs of up to 3 nodes whose imports may be a name that none has too, with each set of names done.
func TestAllSmall(t *testing.T) {
	names := []string{"a", "b", "c", "x"}
	for count := range 4 {
		for sets := range 1 << (4 * count) {
			var l []api.Node
			for i := range count {
				l = append(l, node(names[count-1-i], subset(names, sets>>(4*i)&15)...))
			}
			against(t, l)
			for done := range 16 {
				wantReady(t, l, subset(names, done), modelReady(l, subset(names, done)))
			}
		}
	}
}

// P8.1 to P8.4: all graphs of 4 nodes.
func TestAllFour(t *testing.T) {
	names := []string{"c", "a", "d", "b"}
	for sets := range 1 << 16 {
		var l []api.Node
		for i, name := range names {
			l = append(l, node(name, subset(names, sets>>(4*i)&15)...))
		}
		order, stuck := modelOrder(l)
		wantOrder(t, l, order, stuck)
		wantNames(t, l, "Cyclic", graph.Cyclic(l), modelCyclic(l))
	}
}

// All lists of up to 4 nodes with 2 names, and each set of imports.
func TestAllTwice(t *testing.T) {
	names := []string{"a", "b"}
	last := [][]api.Node{nil}
	for range 4 {
		var longer [][]api.Node
		for _, l := range last {
			for i := range 8 {
				more := append(slices.Clone(l), node(names[i&1], subset(names, i>>1)...))
				against(t, more)
				longer = append(longer, more)
			}
		}
		last = longer
	}
}

// dice are numbers in an order that a fixed rule shuffles.
type dice uint32

func (d *dice) below(n int) int {
	*d = *d*1664525 + 1013904223
	return int(uint64(*d>>8) * uint64(n) >> 24)
}

// grown is a list of so many nodes with so many imports each at most, of names some of which begin with others, some twice.
func (d *dice) grown(count, imports int) []api.Node {
	name := func() string {
		n := d.below(count + 1)
		return strings.Repeat(string([]byte{byte(n * 37)}), n%3) + strings.Repeat("a", n%4) + strconv.Itoa(n/2)
	}
	var l []api.Node
	for range count {
		n := node(name())
		for range d.below(imports + 1) {
			n.Imports = append(n.Imports, name())
		}
		l = append(l, n)
	}
	return l
}

// P8.1 to P8.3: longer lists, from such without cycles to such with many.
func TestGrown(t *testing.T) {
	d := dice(1)
	var cyclic, between int
	for range 600 {
		l := d.grown(d.below(25), 1+d.below(3))
		against(t, l)
		order, stuck := graph.Order(l)
		cyclic += bits.Len(uint(len(graph.Cyclic(l))))
		if len(order) > 0 && len(stuck) > len(graph.Cyclic(l)) {
			between++
		}
	}
	if cyclic < 300 || between < 100 {
		t.Errorf("too few cycles: %d, %d", cyclic, between)
	}
}

// P8.4: the order of the nodes, and of each one's imports, changes nothing.
func TestAnyOrder(t *testing.T) {
	for _, line := range []string{"", "a", "a; b", "a: b; b: a", "a: b c; b: c; c", "a: b; b: a c; c: c; d", "d: c b; c: a; b: a; a", "a: b; b: a; c: b d; d: e; e: d", "e: a b; d: c; b: a; c: x"} {
		l := nodes(line)
		order, stuck := modelOrder(l)
		for turned := range permutations(l) {
			wantOrder(t, turned, order, stuck)
			against(t, turned)
		}
	}
	d := dice(3)
	for range 100 {
		l := counting(d.grown(30, 2))
		order, stuck := graph.Order(l)
		cyclic := graph.Cyclic(l)
		for range 10 {
			for i := range l {
				j := d.below(i + 1)
				l[i], l[j] = l[j], l[i]
				slices.Reverse(l[i].Imports)
			}
			wantOrder(t, l, order, stuck)
			wantNames(t, l, "Cyclic", graph.Cyclic(l), cyclic)
			wantReady(t, l, cyclic, modelReady(l, cyclic))
		}
	}
}

// permutations are a list's, each in a list of its own.
func permutations(l []api.Node) func(yield func([]api.Node) bool) {
	return func(yield func([]api.Node) bool) {
		if len(l) == 0 {
			yield(nil)
			return
		}
		for i, n := range l {
			for rest := range permutations(slices.Delete(slices.Clone(l), i, i+1)) {
				if !yield(append(rest, n)) {
					return
				}
			}
		}
	}
}

// P8.4: in order, each package comes after its imports; stuck is just what is cyclic, or from which that can be reached.
func TestConsequences(t *testing.T) {
	d := dice(5)
	for range 300 {
		l := d.grown(d.below(30), 1+d.below(3))
		order, stuck := graph.Order(l)
		names := namesOf(l)
		wantNames(t, l, "all", increasing(slices.Concat(order, stuck)), names)
		for _, n := range counting(l) {
			at := slices.Index(order, n.Name)
			for _, i := range n.Imports {
				if at >= 0 && slices.Contains(names, i) && !slices.Contains(order[:at], i) {
					t.Fatalf("%q: %q ahead of its import %q: %q", l, n.Name, i, order)
				}
			}
		}
		cyclic := graph.Cyclic(l)
		var want []string
		for name, to := range reached(l) {
			if slices.ContainsFunc(cyclic, func(c string) bool { return c == name || to[c] }) {
				want = append(want, name)
			}
		}
		wantNames(t, l, "stuck", stuck, increasing(want))
	}
}

// numbered is a name for a number, in the same order.
func numbered(n int) string {
	digits := strconv.Itoa(n)
	return strings.Repeat("0", 7-len(digits)) + digits
}

const many = 300000

func manyNames() []string {
	names := make([]string, many)
	for i := range names {
		names[i] = numbered(i)
	}
	return names
}

// P8.1 to P8.3: long chains, both ways, and one that is closed, behind one that is open.
func TestLongChains(t *testing.T) {
	names := manyNames()
	var up, down, ring, tail []api.Node
	for i, name := range names {
		up = append(up, node(name, names[max(i-1, 0):i]...))
		down = append(down, node(name, names[min(i+1, many):min(i+2, many)]...))
		ring = append(ring, node(name, names[(i+1)%many]))
		tail = append(tail, node(name, names[(i+1)%many]))
	}
	half := many / 2
	tail[half].Imports = names[half : half+1]
	turned := slices.Clone(names)
	slices.Reverse(turned)
	for range 2 {
		wantOrder(t, up, names, nil)
		wantOrder(t, down, turned, nil)
		wantOrder(t, ring, nil, names)
		wantOrder(t, tail, nil, names)
		wantNames(t, up, "Cyclic", graph.Cyclic(up), nil)
		wantNames(t, down, "Cyclic", graph.Cyclic(down), nil)
		wantNames(t, ring, "Cyclic", graph.Cyclic(ring), names)
		wantNames(t, tail, "Cyclic", graph.Cyclic(tail), names[half:half+1])
		wantReady(t, up, names[:half], names[half:half+1])
		wantReady(t, down, names[half:], names[half-1:half])
		wantReady(t, ring, names[1:], names[:1])
		wantUsers(t, ring, names[half], names[half-1:half])
		for _, l := range [][]api.Node{up, down, ring, tail} {
			slices.Reverse(l)
		}
	}
}

// P8.1 to P8.3: many nodes, of which one imports all others or is imported by them, and many imports.
func TestManyNodes(t *testing.T) {
	names := manyNames()
	var apart, below, above []api.Node
	for _, name := range slices.Backward(names) {
		apart = append(apart, node(name))
		below = append(below, node(name, "z"))
		above = append(above, node(name))
	}
	below, above = append(below, node("z")), append(above, node("", names...))
	wantOrder(t, apart, names, nil)
	wantReady(t, apart, names[1:], names[:1])
	wantNames(t, apart, "Cyclic", graph.Cyclic(apart), nil)
	wantOrder(t, below, slices.Concat([]string{"z"}, names), nil)
	wantUsers(t, below, "z", names)
	wantReady(t, below, []string{"z"}, names)
	wantNames(t, below, "Cyclic", graph.Cyclic(below), nil)
	wantOrder(t, above, append(slices.Clone(names), ""), nil)
	wantReady(t, above, names, []string{""})
	wantNames(t, above, "Cyclic", graph.Cyclic(above), nil)
	again := slices.Repeat([]string{"a", "x"}, many)
	wantOrder(t, []api.Node{node("b", again...), node("a", "x")}, []string{"a", "b"}, nil)
	wantNames(t, nil, "Cyclic", graph.Cyclic([]api.Node{node("b", again...), node("a", "b")}), []string{"a", "b"})
	same := slices.Repeat([]api.Node{node("a", "b"), node("b", "c"), node("b", "a")}, many)
	wantOrder(t, same, []string{"b", "a"}, nil)
	wantReady(t, same, slices.Repeat([]string{"b", "c"}, many), []string{"a"})
}

// spared is a copy of a list whose spare capacity holds more.
func spared[E any](l []E, more E) []E {
	c := make([]E, len(l), len(l)+3)
	copy(c, l)
	for i := len(l); i < cap(c); i++ {
		c[:cap(c)][i] = more
	}
	return c
}

func sparedNodes(l []api.Node) []api.Node {
	c := spared(l, node("spare", "spare"))
	for i := range c {
		c[i].Imports = spared(c[i].Imports, "spare")
	}
	return c
}

// full is a list with its spare capacity, in which the lists' spare capacity counts too.
func full(l []api.Node) []api.Node {
	c := slices.Clone(l[:cap(l)])
	for i := range c {
		c[i].Imports = slices.Clone(c[i].Imports[:cap(c[i].Imports)])
	}
	return c
}

// R4, R5: arguments stay as they are, their spare capacity too, and this is not read.
func TestArguments(t *testing.T) {
	for _, line := range []string{"c: b a; b: a; a: x", "a: b; b: a; c: b; d", "b: c c; a: a; b: a; c; a"} {
		l := sparedNodes(nodes(line))
		done := spared([]string{"c", "a", "c"}, "b")
		before, beforeDone := full(l), slices.Clone(done[:cap(done)])
		against(t, l)
		wantReady(t, l, done, modelReady(nodes(line), []string{"a", "c"}))
		wantUsers(t, l, "spare", nil)
		if !reflect.DeepEqual(full(l), before) || !slices.Equal(done[:cap(done)], beforeDone) {
			t.Errorf("%s: changed", line)
		}
	}
}

// answers are all lists that the functions answer.
func answers(l []api.Node, done []string, name string) [][]string {
	order, stuck := graph.Order(l)
	return [][]string{order, stuck, graph.Cyclic(l), graph.Ready(l, done), graph.Users(l, name)}
}

// R4: what is answered is new, its spare capacity too, and an earlier answer stays.
func TestNewMemory(t *testing.T) {
	l, done := nodes("c: b a; b: a; a: x; d: e a; e: d; f: a; g: a; a: x"), []string{"a", "d"}
	want := answers(l, done, "a")
	for _, answer := range want {
		if len(answer) == 0 {
			t.Fatalf("an empty answer: %q", want)
		}
	}
	first := answers(l, done, "a")
	for i := range first {
		second := answers(l, done, "a")
		all := second[i][:cap(second[i])]
		for k := range all {
			all[k] = "changed"
		}
		for k, other := range second {
			if k != i {
				wantNames(t, l, "beside a change", other, want[k])
			}
		}
	}
	if !reflect.DeepEqual(first, want) || !reflect.DeepEqual(answers(l, done, "a"), want) || !reflect.DeepEqual(done, []string{"a", "d"}) {
		t.Error("an answer is shared")
	}
}

// R4: a name that is answered does not keep the text that it was cut out of.
func TestNewNames(t *testing.T) {
	text := strings.Clone("a b c d e")
	begin := uintptr(unsafe.Pointer(unsafe.StringData(text)))
	names := strings.Fields(text)
	l := []api.Node{node(names[0], names[1]), node(names[1], names[0]), node(names[2]), node(names[3], names[2]), node(names[4], names[2])}
	for i, answer := range answers(l, names[2:3], names[2]) {
		if len(answer) == 0 {
			t.Errorf("%d: an empty answer", i)
		}
		for _, name := range answer {
			if at := uintptr(unsafe.Pointer(unsafe.StringData(name))); at >= begin && at < begin+uintptr(len(text)) {
				t.Errorf("%d: %q is memory of the argument", i, name)
			}
		}
	}
}

// R5: the same answers each time, whatever was asked before, and by however many at a time.
func TestAgain(t *testing.T) {
	d := dice(9)
	var lists [][]api.Node
	var want [][][]string
	for range 40 {
		l := d.grown(60, 2)
		lists = append(lists, l)
		want = append(want, answers(l, namesOf(l[:20]), l[0].Name))
	}
	for i := range 4 {
		t.Run(strconv.Itoa(i), func(t *testing.T) {
			t.Parallel()
			for range 20 {
				for k, l := range lists {
					for m, answer := range answers(l, namesOf(l[:20]), l[0].Name) {
						wantNames(t, l, "again", answer, want[k][m])
					}
				}
			}
		})
	}
}
