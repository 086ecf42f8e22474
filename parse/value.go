package parse

import "caulker/api"

// value: a value, whatever signs it has.
func (r *reader) value() int {
	r.enter()
	n := r.joined(1)
	r.leave()
	return n
}

// within: a value in brackets.
func (r *reader) within() int {
	r.want("(")
	n := r.value()
	r.want(")")
	return n
}

// closest is how close the closest of the signs between values bind.
const closest = 6

// binds: how close a sign between values binds; 0: it is none.
func binds(sign string) int {
	switch sign {
	case "||":
		return 1
	case "&&":
		return 2
	case "==", "!=":
		return 3
	case "<", "<=", ">", ">=", "is":
		return 4
	case "+", "-":
		return 5
	case "*", "/", "%":
		return closest
	}
	return 0
}

// joined: a value between whose parts there are only signs that bind as close as that, or closer. Where it begins is where its first part does, with the brackets around that.
func (r *reader) joined(close int) int {
	if close > closest {
		return r.signed()
	}
	from := r.from()
	n := r.joined(close + 1)
	for binds(r.word(0)) == close {
		n = r.join(n, close, from)
	}
	return n
}

// join: a value, and what the sign behind it makes of it.
func (r *reader) join(first, close, from int) int {
	sign := r.read()
	if sign != "is" {
		kids := []int{first, r.joined(close + 1)}
		return r.make(api.Node{Kind: api.Binary, Text: sign, Kids: kids}, from)
	}
	kind := api.IsSome
	if !r.take("some") {
		r.want("none")
		kind = api.IsNone
	}
	return r.make(api.Node{Kind: kind, Kids: []int{first}}, from)
}

// signed: a value without signs between, perhaps with signs ahead.
func (r *reader) signed() int {
	kind := api.NoNode
	switch r.word(0) {
	case "-":
		kind = api.Neg
	case "!":
		kind = api.Not
	default:
		return r.asked()
	}
	from := r.from()
	r.enter()
	r.read()
	kids := []int{r.signed()}
	r.leave()
	return r.make(api.Node{Kind: kind, Kids: kids}, from)
}

// asked: a value, and what is asked of it, from the left on.
func (r *reader) asked() int {
	from := r.from()
	n := r.first()
	for {
		switch {
		case r.take("!"):
			n = r.make(api.Node{Kind: api.Guard, Kids: []int{n}}, from)
		case r.take("["):
			kids := []int{n, r.value()}
			r.want("]")
			n = r.make(api.Node{Kind: api.Index, Kids: kids}, from)
		case r.take("."):
			n = r.had(n, from)
		default:
			return n
		}
	}
}

// had: what stands behind the point, of a value.
func (r *reader) had(of, from int) int {
	n := api.Node{Kids: []int{of}}
	switch {
	case r.take("length"):
		n.Kind = api.Length
	case r.take("val"):
		n.Kind = api.Val
	default:
		n.Kind, n.Text = api.Get, r.name()
		if r.sees("(") {
			n.Kind = api.Call
			n.Kids = append(n.Kids, r.list(r.value)...)
		}
	}
	return r.make(n, from)
}
