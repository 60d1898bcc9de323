package parse

import "antecedent/api"

// path reads a path and returns its steps. A path in parentheses is one too, and ends first, so of several that are too long the innermost is reported.
func (r *reader) path() []api.Step {
	at := r.tokens[0].At
	steps := r.sequence("|", api.Or, (*reader).alternative)
	if len(steps) > api.MaxSteps {
		panic(fault{at, api.ErrLong})
	}
	return steps
}

func (r *reader) alternative() []api.Step {
	return r.sequence("/", api.Then, (*reader).part)
}

// sequence reads operands, separated by the given mark, and joins each with all that are ahead of it by a step of the given kind.
func (r *reader) sequence(mark string, kind int, operand func(*reader) []api.Step) []api.Step {
	steps := operand(r)
	for r.skip(mark) {
		steps = append(steps, operand(r)...)
		steps = append(steps, api.Step{Kind: kind})
	}
	return steps
}

func (r *reader) part() []api.Step {
	steps := r.operand()
	for {
		switch {
		case r.skip("*"):
			steps = append(steps, api.Step{Kind: api.Star})
		case r.skip("+"):
			steps = append(steps, api.Step{Kind: api.Plus})
		case r.skip("?"):
			steps = append(steps, api.Step{Kind: api.Maybe})
		default:
			return steps
		}
	}
}

// operand reads a part without what may follow it.
func (r *reader) operand() []api.Step {
	switch {
	case r.next("("):
		return r.enclosed()
	case r.skip("^"):
		return []api.Step{{Kind: api.Back, Label: r.need(isPredicate).Text}}
	}
	return []api.Step{{Kind: api.Along, Label: r.need(isPredicate).Text}}
}

// enclosed reads a path in parentheses.
func (r *reader) enclosed() []api.Step {
	if r.open == api.MaxDepth {
		r.fail(api.ErrDepth)
	}
	r.want("(")
	r.open++
	steps := r.path()
	r.want(")")
	r.open--
	return steps
}
