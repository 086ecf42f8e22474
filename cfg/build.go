package cfg

import (
	"slices"

	"caulker/api"
	"caulker/base"
)

// builder makes a body's graph from its end on, so that what comes then is there already, but for the way back in a loop.
type builder struct {
	program *base.Info
	graph   *Graph
	behind  int // where a break leads
	again   int // where a continue leads
}

// add: a node more.
func (b *builder) add(n Node) int {
	b.graph.nodes = append(b.graph.nodes, n)
	return b.graph.Len() - 1
}

// last: a node behind which nothing comes.
func (b *builder) last(kind, at int) int {
	return b.add(Node{Kind: kind, Slot: -1, At: at, Next: -1, Else: -1})
}

// join: where ways come together, which lead on to a next node.
func (b *builder) join(at, next int) int {
	return b.add(Node{Kind: Join, Slot: -1, At: at, Next: next, Else: -1})
}

// local: what happens to the local that a node names, and then the next node.
func (b *builder) local(kind, at, next int) int {
	return b.add(Node{Kind: kind, Slot: b.program.Slot(at), At: at, Next: next, Else: -1})
}

// statement: with what one begins, whose end leads to a next node.
func (b *builder) statement(node, next int) int {
	n := b.program.Node(node)
	switch n.Kind {
	case api.Block:
		return b.statements(n.Kids, next)
	case api.If:
		no := b.statements(n.Kids[2:], next)
		return b.condition(n.Kids[0], b.statement(n.Kids[1], next), no)
	case api.While:
		return b.loop(node, n.Kids, next)
	case api.Break:
		return b.behind
	case api.Continue:
		return b.again
	case api.Return:
		return b.values(n.Kids, b.last(Leave, node))
	case api.Decl:
		return b.set(node, n.Kids, next)
	case api.Assign:
		if b.program.Node(n.Kids[0]).Kind == api.Var {
			return b.set(n.Kids[0], n.Kids[1:], next)
		}
	}
	return b.values(n.Kids, next)
}

// statements: with what several begin, one by one.
func (b *builder) statements(list []int, next int) int {
	for _, node := range slices.Backward(list) {
		next = b.statement(node, next)
	}
	return next
}

// loop: a join, to which the block's end leads back.
func (b *builder) loop(node int, kids []int, next int) int {
	head := b.join(node, -1)
	inside := *b
	inside.behind, inside.again = next, head
	block := inside.statement(kids[1], head)
	b.graph.nodes[head].Next = b.condition(kids[0], block, next)
	return head
}

// set: the value that the local of a node is given, if there is one, and that it is given.
func (b *builder) set(node int, value []int, next int) int {
	at := -1
	if len(value) > 0 {
		at = value[0]
	}
	given := b.add(Node{Kind: Set, Slot: b.program.Slot(node), At: at, Next: next, Else: -1})
	return b.values(value, given)
}

// values: with what several begin, one by one.
func (b *builder) values(list []int, next int) int {
	for _, node := range slices.Backward(list) {
		next = b.value(node, next)
	}
	return next
}

// value: with what one begins.
func (b *builder) value(node, next int) int {
	n := b.program.Node(node)
	switch {
	case n.Kind == api.Var:
		return b.local(Read, node, next)
	case n.Kind == api.Binary && (n.Text == "&&" || n.Text == "||"):
		join := b.join(node, next)
		return b.condition(node, join, join)
	case len(n.Kids) == 0:
		return next
	}
	next = b.values(n.Kids[1:], next)
	if kind := done(n.Kind); kind != 0 && b.program.Node(n.Kids[0]).Kind == api.Var {
		next = b.local(kind, n.Kids[0], next)
	}
	return b.value(n.Kids[0], next)
}

// done: what a value of a kind does to its first one, if that is a local itself; 0: nothing.
func done(kind int) int {
	switch kind {
	case api.Get, api.Index, api.Length, api.Call:
		return Use
	case api.Guard:
		return Must
	}
	return 0
}

// condition: with what a value begins that leads to one node, if it is true, and else to another one.
func (b *builder) condition(node, yes, no int) int {
	n := b.program.Node(node)
	switch {
	case n.Kind == api.Not:
		return b.condition(n.Kids[0], no, yes)
	case n.Kind == api.Binary && n.Text == "&&":
		return b.condition(n.Kids[0], b.condition(n.Kids[1], yes, no), no)
	case n.Kind == api.Binary && n.Text == "||":
		return b.condition(n.Kids[0], yes, b.condition(n.Kids[1], yes, no))
	case n.Kind == api.IsSome:
		return b.test(n.Kids[0], yes, no)
	case n.Kind == api.IsNone:
		return b.test(n.Kids[0], no, yes)
	}
	local := Held(b.program, node)
	switch {
	case local < 0:
		return b.value(node, b.add(Node{Kind: Fork, Slot: -1, At: node, Next: yes, Else: no}))
	case n.Text == "==":
		return b.test(local, no, yes)
	}
	return b.test(local, yes, no)
}

// test: a local is named, and leads to one node, if it isn't null (or is an option that holds something), and else to another one.
func (b *builder) test(at, yes, no int) int {
	return b.local(Read, at, b.add(Node{Kind: Test, Slot: b.program.Slot(at), At: at, Next: yes, Else: no}))
}
