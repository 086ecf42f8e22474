package base

import (
	"caulker/api"
	"caulker/kind"
	"caulker/scope"
)

// wrong is the fault that is thrown where it is found.
type wrong api.Fault

// looker is how far one has looked over a body of a program.
type looker struct {
	*Info
	body   Body
	locals []scope.Local
	loops  int // how many loops stand around what is looked at
}

// at: a node, not copied, as it is only read.
func (l *looker) at(node int) api.Node { return l.tree.Nodes[node] }

// fail throws what is wrong, at the byte where a node begins.
func (l *looker) fail(code api.Errno, node int) { panic(wrong{Code: code, At: l.at(node).From}) }

// want throws what is wrong with a node, if this doesn't hold.
func (l *looker) want(holds bool, code api.Errno, node int) {
	if !holds {
		l.fail(code, node)
	}
}

// solid: a type that something that has a value may have.
func (l *looker) solid(node int) {
	l.want(l.at(node).Type.Base != api.Void, api.ErrKind, node)
}

// look goes through the body: its parameters, and its block, which is made of statements.
func (l *looker) look() {
	kids := l.at(l.body.Node).Kids
	last := len(kids) - 1
	for _, param := range kids[:last] {
		l.solid(param)
	}
	list := l.at(kids[last]).Kids
	if l.body.Init {
		list = l.begun(list)
	}
	l.all(list)
}

// begun: an init's statements without the one that calls the init of the ancestor: that must come first, if there is such an init.
func (l *looker) begun(list []int) []int {
	chain := l.Table().Chain(l.body.Owner)
	if len(chain) == 1 {
		return list
	}
	m, ok := l.Table().Init(chain[1])
	if !ok {
		return list
	}
	l.want(len(list) > 0 && l.at(list[0]).Kind == api.Super, api.ErrPlace, l.body.Node)
	l.arguments(list[0], l.at(list[0]).Kids, m.Params)
	return list[1:]
}

// all looks at statements, one by one.
func (l *looker) all(list []int) {
	for _, node := range list {
		l.statement(node)
	}
}

// statement looks at one.
func (l *looker) statement(node int) {
	n := l.at(node)
	switch n.Kind {
	case api.Block:
		l.all(n.Kids)
	case api.Decl:
		l.solid(node)
		for _, value := range n.Kids {
			l.fits(value, n.Type)
		}
	case api.Assign:
		t := l.value(n.Kids[0])
		l.want(l.target(n.Kids[0]), api.ErrPlace, n.Kids[0])
		l.fits(n.Kids[1], t)
	case api.If:
		l.branch(n)
	case api.While:
		l.loops++
		l.branch(n)
		l.loops--
	case api.Break, api.Continue:
		l.want(l.loops > 0, api.ErrPlace, node)
	case api.Return:
		l.answer(node)
	case api.Print:
		l.of(n.Kids[0], api.Int, api.Bool, api.Double, api.Str)
	case api.Expr:
		only := l.at(n.Kids[0]).Kind
		l.want(only == api.Call || only == api.New, api.ErrPlace, n.Kids[0])
		l.value(n.Kids[0])
	default:
		l.fail(api.ErrPlace, node)
	}
}

// target: may something be assigned to a value?
func (l *looker) target(node int) bool {
	switch l.at(node).Kind {
	case api.Var, api.Get, api.Index:
		return true
	}
	return false
}

// branch looks at a condition, and at the blocks behind it.
func (l *looker) branch(n api.Node) {
	l.of(n.Kids[0], api.Bool)
	for _, block := range n.Kids[1:] {
		l.want(l.at(block).Kind == api.Block, api.ErrPlace, block)
		l.statement(block)
	}
}

// answer looks at a return: an init answers nothing, just as what is void.
func (l *looker) answer(node int) {
	values := l.at(node).Kids
	none := l.body.Init || l.body.Type.Base == api.Void
	l.want(none == (len(values) == 0), api.ErrArgs, node)
	for _, value := range values {
		l.fits(value, l.body.Type)
	}
}

// arguments looks at those of a node.
func (l *looker) arguments(node int, args []int, params []api.Type) {
	l.want(len(args) == len(params), api.ErrArgs, node)
	for i, arg := range args {
		l.fits(arg, params[i])
	}
}

// fits looks at a value that must fit a type.
func (l *looker) fits(value int, t api.Type) {
	l.want(l.Table().Fits(l.value(value), t), api.ErrKind, value)
}

// of looks at a value that must be of one of these bases, and nothing else: its type.
func (l *looker) of(value int, bases ...int) api.Type {
	t := l.value(value)
	l.want(same(t, t, bases...), api.ErrKind, value)
	return t
}

// same: are two types both one of these bases, and nothing else?
func same(a, b api.Type, bases ...int) bool {
	for _, base := range bases {
		if kind.Is(a, base) && kind.Is(b, base) {
			return true
		}
	}
	return false
}
