package arity

import (
	"fmt"
	"slices"
	"strings"
	"testing"

	"antecedent/api"
	"antecedent/parse"
	"antecedent/show"
)

// letters stand for the kinds of values, at their numbers; ? is that of a column that no value determines.
const letters = "?ifs"

// values are texts of a value of each kind.
func values() []string { return []string{"", "7", "#4000000000000000", "b"} }

// told returns what Kinds has returned in short: an error by its word, or each predicate with the letters of its kinds, in parentheses if there are any.
func told(l []Pred, e api.Errno) string {
	switch {
	case e == api.ErrArity && len(l) == 0:
		return "arity"
	case e == api.ErrType && len(l) == 0:
		return "type"
	case e != api.OK:
		return fmt.Sprintf("%v with the error %d", l, e)
	}
	var texts []string
	for _, x := range l {
		s := ""
		for _, k := range x.Kinds {
			s += letters[k : k+1]
		}
		if s != "" {
			s = "(" + s + ")"
		}
		texts = append(texts, x.Name+s)
	}
	return strings.Join(texts, " ")
}

// program returns the program that a text is.
func program(t *testing.T, text string) api.Program {
	t.Helper()
	p, at, e := parse.Parse(text)
	if e != api.OK {
		t.Fatalf("%q has the error %d at %d", text, e, at)
	}
	return p
}

// check checks what Kinds returns for a text, in short.
func check(t *testing.T, text, want string) {
	t.Helper()
	checkProgram(t, program(t, text), want)
}

// checkProgram checks what Kinds returns for a program, in short, by what it must be and by the definition; for its rules and literals in other orders; and without some of the rules.
func checkProgram(t *testing.T, p api.Program, want string) {
	t.Helper()
	if !show.Right(p) {
		t.Fatalf("%+v is not valid", p)
	}
	if s := defined(p); s != want {
		t.Errorf("%q: %s by the definition, not %s", show.Text(p), s, want)
	}
	for _, x := range reordered(p) {
		checkAlone(t, x, want)
	}
	if want == "arity" || want == "type" {
		return
	}
	for _, x := range shortened(p) {
		checkAlone(t, x, defined(x))
		if _, e := Kinds(x); e != api.OK {
			t.Errorf("%q has the error %d, though there is none with more rules", show.Text(x), e)
		}
	}
}

// checkAlone checks what Kinds returns for a program, which must stay as it is, two times.
func checkAlone(t *testing.T, p api.Program, want string) {
	t.Helper()
	before := fmt.Sprintf("%+v", p)
	for range 2 {
		if s := told(Kinds(p)); s != want {
			t.Errorf("%q: %s, not %s", show.Text(p), s, want)
		}
	}
	if s := fmt.Sprintf("%+v", p); s != before {
		t.Errorf("%s has become %s", before, s)
	}
}

// reordered returns p, and p with its rules and literals in other orders.
func reordered(p api.Program) []api.Program {
	rules := slices.Clone(p.Rules)
	slices.Reverse(rules)
	all := []api.Program{p, {Rules: rules, Query: p.Query}}
	for i := range p.Rules {
		// All rules from the number i on stand first.
		all = append(all, api.Program{Rules: slices.Concat(p.Rules[i:], p.Rules[:i]), Query: p.Query})
	}
	for i, x := range all {
		all[i].Rules = slices.Clone(x.Rules)
		for j, y := range x.Rules {
			body := slices.Clone(y.Body)
			slices.Reverse(body)
			if i%2 == 1 && len(body) > 2 {
				body = slices.Concat(body[1:], body[:1])
			}
			all[i].Rules[j].Body = body
		}
	}
	return append(all, p)
}

// shortened returns p without some of its rules: all of such programs if they are few, or else some of them.
func shortened(p api.Program) []api.Program {
	n := len(p.Rules)
	var all []api.Program
	if n > 5 {
		for i := range n {
			all = append(all, api.Program{Rules: p.Rules[:i], Query: p.Query}, api.Program{Rules: slices.Concat(p.Rules[:i], p.Rules[i+1:]), Query: p.Query})
		}
		return all
	}
	for left := range 1<<n - 1 {
		x := api.Program{Query: p.Query}
		for i, y := range p.Rules {
			if left>>i&1 == 1 {
				x.Rules = append(x.Rules, y)
			}
		}
		all = append(all, x)
	}
	return all
}
