package show

import (
	"antecedent/api"
	"antecedent/parse"
)

// How tightly an expression holds together, from the loosest one on: alternatives, a sequence, and what may be repeated.
const (
	choice = iota
	sequence
	single
)

// expression is the text of a path, and how tightly it holds together.
type expression struct {
	text string
	hold int
}

// Path returns the text of the path with the steps l, or the empty string if they are not a valid one.
func Path(l []api.Step) string {
	if len(l) > api.MaxSteps {
		return ""
	}
	var stack []expression
	for _, s := range l {
		n, ok := operands(s)
		if !ok || n > len(stack) {
			return ""
		}
		rest := len(stack) - n
		stack = append(stack[:rest], combine(s, stack[rest:]))
	}
	if len(stack) != 1 || parse.Deep(stack[0].text) > api.MaxDepth {
		return ""
	}
	return stack[0].text
}

// operands returns how many operands s has, and whether it is a step that may be.
func operands(s api.Step) (int, bool) {
	switch s.Kind {
	case api.Along, api.Back:
		return 0, predicate(s.Label)
	case api.Star, api.Plus, api.Maybe:
		return 1, s.Label == ""
	case api.Then, api.Or:
		return 2, s.Label == ""
	}
	return 0, false
}

// combine returns the expression of a step with its operands. As sequences associate to the left, an operand on the right must hold more tightly than one on the left.
func combine(s api.Step, of []expression) expression {
	switch s.Kind {
	case api.Along:
		return expression{s.Label, single}
	case api.Back:
		return expression{"^" + s.Label, single}
	case api.Then:
		return expression{of[0].within(sequence) + "/" + of[1].within(single), sequence}
	case api.Or:
		return expression{of[0].within(choice) + "|" + of[1].within(sequence), choice}
	case api.Star:
		return expression{of[0].within(single) + "*", single}
	case api.Plus:
		return expression{of[0].within(single) + "+", single}
	}
	return expression{of[0].within(single) + "?", single}
}

// within returns the text of x where at least that hold is needed: in parentheses if x holds less tightly.
func (x expression) within(least int) string {
	if x.hold < least {
		return "(" + x.text + ")"
	}
	return x.text
}
