package body_test

import (
	"reflect"
	"slices"
	"strconv"
	"strings"
	"testing"
	"unsafe"

	"quoin/api"
	"quoin/body"
	"quoin/term"
)

// grafted is a copy of a value all of whose lists are new, with so many elements of spare capacity.
func grafted(x reflect.Value, spare int) reflect.Value {
	y := reflect.New(x.Type()).Elem()
	switch x.Kind() {
	case reflect.Struct:
		for i := range x.NumField() {
			y.Field(i).Set(grafted(x.Field(i), spare))
		}
	case reflect.Slice:
		if x.IsNil() && spare == 0 {
			return y
		}
		all := reflect.MakeSlice(x.Type(), x.Len()+spare, x.Len()+spare)
		for i := range all.Len() {
			if i < x.Len() {
				all.Index(i).Set(grafted(x.Index(i), spare))
			} else {
				all.Index(i).Set(odd(x.Type().Elem(), 2))
			}
		}
		y.Set(all.Slice(0, x.Len()))
	default:
		y.Set(x)
	}
	return y
}

// odd is a value that no field of what is handed in has.
func odd(of reflect.Type, levels int) reflect.Value {
	y := reflect.New(of).Elem()
	switch of.Kind() {
	case reflect.Struct:
		for i := range of.NumField() {
			y.Field(i).Set(odd(of.Field(i).Type, levels))
		}
	case reflect.Slice:
		if levels > 0 {
			y.Set(reflect.Append(y, odd(of.Elem(), levels-1)))
		}
	case reflect.String:
		y.SetString("spare")
	case reflect.Int:
		y.SetInt(4)
	case reflect.Bool:
		y.SetBool(true)
	}
	return y
}

// full is a copy of a value in which the spare capacity of lists counts too.
func full(x reflect.Value) reflect.Value {
	y := reflect.New(x.Type()).Elem()
	switch x.Kind() {
	case reflect.Struct:
		for i := range x.NumField() {
			y.Field(i).Set(full(x.Field(i)))
		}
	case reflect.Slice:
		all := x.Slice3(0, x.Cap(), x.Cap())
		for i := range all.Len() {
			y.Set(reflect.Append(y, full(all.Index(i))))
		}
	default:
		y.Set(x)
	}
	return y
}

func spared[T any](x T) T { return grafted(reflect.ValueOf(x), 2).Interface().(T) }

func whole[T any](x T) T { return full(reflect.ValueOf(x)).Interface().(T) }

// span is where a list, with its spare capacity, or a text lies.
type span struct{ begin, end uintptr }

// spans are those of all lists, or else of all texts, of a value.
func spans(x reflect.Value, texts bool) []span {
	var l []span
	add := func(begin unsafe.Pointer, bytes uintptr) {
		if bytes > 0 {
			l = append(l, span{uintptr(begin), uintptr(begin) + bytes})
		}
	}
	switch x.Kind() {
	case reflect.Struct:
		for i := range x.NumField() {
			l = append(l, spans(x.Field(i), texts)...)
		}
	case reflect.Slice:
		if !texts && x.Cap() > 0 {
			add(x.UnsafePointer(), uintptr(x.Cap())*x.Type().Elem().Size())
		}
		for i := range x.Len() {
			l = append(l, spans(x.Index(i), texts)...)
		}
	case reflect.String:
		if texts {
			add(unsafe.Pointer(unsafe.StringData(x.String())), uintptr(x.Len()))
		}
	}
	return l
}

// apart holds that no two of the spans overlap.
func apart(l []span) bool {
	l = slices.Clone(l)
	slices.SortFunc(l, func(a, b span) int {
		if a.begin < b.begin {
			return -1
		}
		return 1
	})
	for i := 1; i < len(l); i++ {
		if l[i].begin < l[i-1].end {
			return false
		}
	}
	return true
}

// handed is what the function is given.
type handed struct {
	S api.Scope
	D api.Decl
}

func (h handed) asked() answered { return asked(h.S, h.D) }

// handed makes what the function is given, with types that have lists.
func (d *dice) handed(t *testing.T) handed {
	t.Helper()
	if d.below(3) > 0 {
		const text = "func f[P I](x []T,p P,o bool,y []P)[]T{let z=x;y=new []P{p};let l=new [][]T{z,x[0].next};if pick(p).m(1){z=l[0];l=new []V{y};let z=y;z=y;}for o{let x=z;x=l[1];y=@;}return l[x[0].g];}"
		return handed{usual(t), function(t, strings.Replace(text, "@", d.of("y", "x", "z", "p", "none", "h()", "new []P{}", "l[0]"), 1))}
	}
	return handed{d.scope(), placed(d.decl())}
}

// P14.2, R4, R5: what is handed in stays as it is, its spare capacity too, and this is not read.
func TestArguments(t *testing.T) {
	d := dice(13)
	for range 400 {
		bare := d.handed(t)
		h := spared(bare)
		if spell(h) != spell(bare) {
			t.Fatal("no copy")
		}
		before := whole(h)
		got, want := h.asked(), bare.asked()
		got2, want2 := body.Ends(h.D.Body), body.Ends(bare.D.Body)
		if !reflect.DeepEqual(whole(h), before) {
			t.Fatalf("changed: %s", told(h))
		}
		if spell(got) != spell(want) || got2 != want2 {
			t.Fatalf("%s: %s; want %s", told(h), told(got), told(want))
		}
	}
}

// R4: no two lists of a result share memory, and none shares it with what was handed in, spare capacity counted; nor do texts with what was handed in.
func TestNewMemory(t *testing.T) {
	d := dice(15)
	lists, texts := 0, 0
	for range 1000 {
		h := spared(d.handed(t))
		one, two := h.asked(), h.asked()
		taken := spans(reflect.ValueOf(h), false)
		first, second := spans(reflect.ValueOf(one), false), spans(reflect.ValueOf(two), false)
		lists += len(first)
		if !apart(slices.Concat(taken, first, second)) {
			t.Fatalf("%s: shared lists", told(h))
		}
		given := map[span]bool{}
		for _, s := range spans(reflect.ValueOf(h), true) {
			given[s] = true
		}
		for _, s := range spans(reflect.ValueOf(one), true) {
			texts++
			if given[s] {
				t.Fatalf("%s: a text that was handed in", told(h))
			}
		}
	}
	if lists < 10000 || texts < 10000 {
		t.Errorf("too few: %d lists, %d texts", lists, texts)
	}
}

// R4: what an answer is changed to changes nothing of what was handed in, of the rest of the answer, nor of later answers.
func TestChangedAnswers(t *testing.T) {
	h := handed{usual(t), function(t, "func f(x []T){x=x;let y=x;y=y;y=1;y=true;}")}
	before, want := whole(h), spell(h.asked())
	a := h.asked()
	if len(a.Uses) != 9 || len(a.Wrong) != 2 {
		t.Fatalf("%s", told(a))
	}
	for i := range a.Uses {
		if a.Uses[i].T.Kind == 5 {
			if term.Text(a.Uses[i].T) != "[]a.T" {
				t.Errorf("%d: %s", i, told(a))
			}
			a.Uses[i].T.Args[0] = ofKind(3)
		}
		a.Uses[i].Def.Name = "none"
	}
	a.Wrong[0] = api.Diag{}
	if !reflect.DeepEqual(whole(h), before) || spell(h.asked()) != want {
		t.Errorf("%s, %s", told(h), told(h.asked()))
	}
}

// R5: the same answers each time, whatever was asked before, and by however many at a time.
func TestAgain(t *testing.T) {
	d := dice(17)
	var all []handed
	var want []string
	for range 300 {
		h := d.handed(t)
		all, want = append(all, h), append(want, spell(h.asked()))
	}
	for k := range 4 {
		t.Run(strconv.Itoa(k), func(t *testing.T) {
			t.Parallel()
			for range 5 {
				for i, h := range all {
					if got := spell(h.asked()); got != want[i] {
						t.Fatalf("%s: %s; want %s", told(h), got, want[i])
					}
				}
			}
		})
	}
}
