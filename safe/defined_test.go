package safe

import (
	"maps"
	"slices"
	"strings"

	"antecedent/api"
)

// What the functions return, in another way: the order is the first one, of all orders of the literals, in which each literal is ready when its turn comes. (It is the first one because what is ready stays so, whatever else is selected.)

// variables returns the variables of the terms, without order.
func variables(all ...api.Term) map[string]bool {
	m := map[string]bool{}
	for _, u := range all {
		if u.Var != "" {
			m[u.Var] = true
		}
	}
	return m
}

// variablesOf returns the variables of a literal.
func variablesOf(l api.Literal) map[string]bool {
	return variables(append(slices.Clone(l.Atom.Args), l.A, l.B, l.C)...)
}

// conditions returns sets of variables: a literal is ready as soon as all of one of them are bound.
func conditions(l api.Literal) []map[string]bool {
	if l.Kind == api.Fails {
		return []map[string]bool{variablesOf(l)}
	}
	if l.Kind == api.Compare && l.Op == "=" {
		return []map[string]bool{variables(l.A), variables(l.B)}
	}
	if l.Kind == api.Compare {
		return []map[string]bool{variables(l.A, l.B)}
	}
	if l.Kind == api.Let {
		return []map[string]bool{variables(l.B, l.C)}
	}
	return []map[string]bool{{}}
}

// readyFor reports whether a literal is ready by the definition.
func readyFor(l api.Literal, bound map[string]bool) bool {
	return slices.ContainsFunc(conditions(l), func(need map[string]bool) bool {
		for name := range need {
			if !bound[name] {
				return false
			}
		}
		return true
	})
}

// orders returns all orders of the numbers below n, from 0, 1, 2 on, in their order as lists.
func orders(n int) [][]int {
	all := [][]int{{}}
	for range n {
		var longer [][]int
		for _, l := range all {
			for i := range n {
				if !slices.Contains(l, i) {
					longer = append(longer, append(slices.Clone(l), i))
				}
			}
		}
		all = longer
	}
	return all
}

// possible reports whether each literal is ready when its turn comes in that order.
func possible(l []api.Literal, bound []string, order []int) bool {
	now := map[string]bool{}
	for _, name := range bound {
		now[name] = true
	}
	for _, i := range order {
		if !readyFor(l[i], now) {
			return false
		}
		maps.Copy(now, variablesOf(l[i]))
	}
	return true
}

// defined returns the order by the definition, of those that are given, and the variables that are bound after it, as a text; or false if there is no order.
func defined(l []api.Literal, bound []string, all [][]int) ([]int, string, bool) {
	i := slices.IndexFunc(all, func(order []int) bool { return possible(l, bound, order) })
	if i < 0 {
		return nil, "", false
	}
	after := map[string]bool{}
	for _, x := range l {
		maps.Copy(after, variablesOf(x))
	}
	for _, name := range bound {
		after[name] = true
	}
	return all[i], strings.Join(slices.Sorted(maps.Keys(after)), " "), true
}

// definedRule returns a rule by the definition, or nil if it is not safe.
func definedRule(x api.Rule, all [][]int) *api.Rule {
	order, after, ok := defined(x.Body, nil, all)
	for name := range variables(x.Head.Args...) {
		ok = ok && slices.Contains(words(after), name)
	}
	if !ok {
		return nil
	}
	y := x
	y.Body = nil
	for _, i := range order {
		y.Body = append(y.Body, x.Body[i])
	}
	return &y
}
