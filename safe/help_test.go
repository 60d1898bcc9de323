package safe

import (
	"fmt"
	"reflect"
	"slices"
	"strings"
	"testing"

	"antecedent/api"
	"antecedent/parse"
	"antecedent/show"
)

// program returns the program that a text is.
func program(t *testing.T, text string) api.Program {
	t.Helper()
	p, at, e := parse.Parse(text)
	if e != api.OK {
		t.Fatalf("%q has the error %d at %d", text, e, at)
	}
	return p
}

// body returns the literals that a text is.
func body(t *testing.T, text string) []api.Literal {
	t.Helper()
	if text == "" {
		return nil
	}
	return program(t, "p :- "+text+". ?- p.").Rules[0].Body
}

func named(s string) api.Term { return api.Term{Var: s} }

func number(n int64) api.Term { return api.Term{Val: api.Value{Kind: api.Int, N: n}} }

// words returns the words of a text, or none.
func words(s string) []string { return strings.Fields(s) }

// told returns the text of a body, or all that is in it if it is not valid.
func told(l []api.Literal) string {
	if s := show.Rule(api.Rule{Head: api.Atom{Pred: "p"}, Body: l}); s != "" {
		return s
	}
	return fmt.Sprintf("%+v", l)
}

// roomy returns the elements of l in a slice with room behind them, which has the element spare in it.
func roomy[T any](l []T, spare T) []T {
	return append(slices.Clone(l), spare, spare)[:len(l)]
}

// roomyLiterals returns the literals of l with room behind each slice.
func roomyLiterals(l []api.Literal) []api.Literal {
	l = roomy(l, api.Literal{Kind: api.Fails, A: named("Spare")})
	for i := range l {
		l[i].Atom.Args = roomy(l[i].Atom.Args, named("Spare"))
		l[i].Path = roomy(l[i].Path, api.Step{Kind: api.Along, Label: "spare"})
	}
	return l
}

// roomyRule returns x with room behind each slice.
func roomyRule(x api.Rule) api.Rule {
	x.Head.Args = roomy(x.Head.Args, named("Spare"))
	x.Body = roomyLiterals(x.Body)
	return x
}

// roomyProgram returns p with room behind each slice.
func roomyProgram(p api.Program) api.Program {
	p.Rules = roomy(p.Rules, api.Rule{Fold: api.Sum})
	for i, x := range p.Rules {
		p.Rules[i] = roomyRule(x)
	}
	p.Query.Args = roomy(p.Query.Args, named("Spare"))
	return p
}

// slicesIn returns all slices in v that have any memory, each with the room behind it.
func slicesIn(v reflect.Value) []reflect.Value {
	var l []reflect.Value
	switch v.Kind() {
	case reflect.Slice:
		if v.Cap() == 0 || v.Type().Elem().Size() == 0 {
			return nil
		}
		v = v.Slice(0, v.Cap())
		l = append(l, v)
		for i := range v.Len() {
			l = append(l, slicesIn(v.Index(i))...)
		}
	case reflect.Struct:
		for i := range v.NumField() {
			l = append(l, slicesIn(v.Field(i))...)
		}
	}
	return l
}

// picture returns all that is in the values, with the room behind their slices.
func picture(all []any) string {
	s := fmt.Sprintf("%+v", all)
	for _, x := range all {
		for _, v := range slicesIn(reflect.ValueOf(x)) {
			s += fmt.Sprintf("\n%+v", v.Interface())
		}
	}
	return s
}

// shared reports whether two slices have memory in common.
func shared(v, w reflect.Value) bool {
	end := func(v reflect.Value) uintptr { return v.Pointer() + uintptr(v.Len())*v.Type().Elem().Size() }
	return v.Pointer() < end(w) && w.Pointer() < end(v)
}

// checkCall calls a function that passes the arguments on and returns all results, two times: the arguments must stay as they are, the results must be the same, and no slice of a result may share memory with an argument or with another slice.
func checkCall(t *testing.T, call func() []any, arguments ...any) []any {
	t.Helper()
	before := picture(arguments)
	first, again := call(), call()
	if s := picture(arguments); s != before {
		t.Fatalf("the arguments %s have become %s", before, s)
	}
	if a, b := fmt.Sprintf("%+v", first), fmt.Sprintf("%+v", again); a != b {
		t.Fatalf("for %s the result is %s, and then %s", before, a, b)
	}
	var old []reflect.Value
	for _, x := range arguments {
		old = append(old, slicesIn(reflect.ValueOf(x))...)
	}
	for _, x := range slices.Concat(first, again) {
		for _, v := range slicesIn(reflect.ValueOf(x)) {
			if slices.ContainsFunc(old, func(w reflect.Value) bool { return shared(v, w) }) {
				t.Fatalf("for %s a slice of the result, %+v, shares memory", before, v.Interface())
			}
			old = append(old, v)
		}
	}
	return first
}

// checkOrder checks what Order returns: the indices and the variables, as texts; or ErrUnsafe, if want is "unsafe".
func checkOrder(t *testing.T, l []api.Literal, bound []string, want, wantBound string) {
	t.Helper()
	l, bound = roomyLiterals(l), roomy(bound, "Spare")
	checkCall(t, func() []any {
		order, after, e := Order(l, bound)
		return []any{order, after, e}
	}, l, bound)
	order, after, e := Order(l, bound)
	if want == "unsafe" {
		if e != api.ErrUnsafe || len(order) != 0 || len(after) != 0 {
			t.Errorf("%s with %q: %v, %q, error %d, but it is not safe", told(l), bound, order, after, e)
		}
		return
	}
	if s := strings.Trim(fmt.Sprint(order), "[]"); s != want || e != api.OK {
		t.Errorf("%s with %q: the order %s, error %d, not %s", told(l), bound, s, e, want)
	}
	if !slices.Equal(after, words(wantBound)) {
		t.Errorf("%s with %q: %q are bound after it, not %q", told(l), bound, after, words(wantBound))
	}
}

// checkBinds checks what Binds returns: the variables, as a text; and Vars, if none are bound.
func checkBinds(t *testing.T, l api.Literal, bound []string, want string) {
	t.Helper()
	l, bound = roomyLiterals([]api.Literal{l})[0], roomy(bound, "Spare")
	got := checkCall(t, func() []any { return []any{Binds(l, bound)} }, l, bound)[0].([]string)
	if !slices.Equal(got, words(want)) {
		t.Errorf("Binds(%+v, %q): %q, not %q", l, bound, got, words(want))
	}
	if len(bound) > 0 {
		return
	}
	got = checkCall(t, func() []any { return []any{Vars(l)} }, l)[0].([]string)
	if !slices.Equal(got, words(want)) {
		t.Errorf("Vars(%+v): %q, not %q", l, got, words(want))
	}
}

// checkOrdered checks what order, which is Rule or Program, returns for x: want, up to nil and empty slices; or ErrUnsafe, if there is none.
func checkOrdered[T any](t *testing.T, order func(T) (T, api.Errno), x T, want *T) {
	t.Helper()
	checkCall(t, func() []any {
		y, e := order(x)
		return []any{y, e}
	}, x)
	y, e := order(x)
	if want == nil {
		if e != api.ErrUnsafe || !reflect.ValueOf(y).IsZero() {
			t.Errorf("%+v: %+v, error %d, but it is not safe", x, y, e)
		}
	} else if e != api.OK || fmt.Sprintf("%+v", y) != fmt.Sprintf("%+v", *want) {
		t.Errorf("%+v: %+v, error %d, not %+v", x, y, e, *want)
	}
}

func checkRule(t *testing.T, x api.Rule, want *api.Rule) {
	t.Helper()
	checkOrdered(t, Rule, roomyRule(x), want)
}

func checkProgram(t *testing.T, p api.Program, want *api.Program) {
	t.Helper()
	checkOrdered(t, Program, roomyProgram(p), want)
}
