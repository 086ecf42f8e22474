package demand

import (
	"slices"

	"caulker/api"
	"caulker/base"
	"caulker/flow"
	"caulker/kind"
	"caulker/strict"
)

// blockEnd stands for the block's end among the returns.
const blockEnd = -1

// looker is what looks at a program in which all parameters may be null.
type looker struct {
	*base.Info
	tree   api.Tree
	bodies []base.Body
	leaves [][]int            // where each body may be left
	given  []map[int]struct{} // which locals of each body an Assign gives a value
}

// newLooker goes through all nodes once, as there may be as many bodies.
func newLooker(x *base.Info) *looker {
	l := &looker{Info: x, tree: x.Tree(), bodies: x.Bodies()}
	for range l.bodies {
		l.leaves = append(l.leaves, []int{blockEnd})
		l.given = append(l.given, map[int]struct{}{})
	}
	for node, n := range l.tree.Nodes {
		switch n.Kind {
		case api.Return:
			body := l.Within(node)
			l.leaves[body] = append(l.leaves[body], node)
		case api.Assign:
			if target := n.Kids[0]; l.tree.Nodes[target].Kind == api.Var {
				l.given[l.Within(node)][l.Slot(target)] = struct{}{}
			}
		}
	}
	return l
}

// demanded: the parameters that one body by itself demands.
func (l *looker) demanded(number int, b base.Body) []int {
	facts := flow.Solve(l.Info, number, true)
	var list []int
	for _, param := range l.params(b.Node) {
		slot := l.Slot(param)
		_, given := l.given[number][slot]
		lost := slices.ContainsFunc(l.leaves[number], func(leave int) bool { return !facts.Left(leave, slot) })
		if l.mayBeNull(param) && !given && !lost {
			list = append(list, param)
		}
	}
	return list
}

// mayBeNull: does a parameter's type say that it may be null?
func (l *looker) mayBeNull(param int) bool {
	return kind.Outer(l.tree.Nodes[param].Type) == api.Nullable
}

// params: the parameters of a method or an init; behind them stands its block.
func (l *looker) params(node int) []int {
	kids := l.tree.Nodes[node].Kids
	return kids[:len(kids)-1]
}

// meant: the nodes of all methods that a call of one may mean; of an init its own.
func (l *looker) meant(b base.Body) []int {
	if b.Init {
		return []int{b.Node}
	}
	var list []int
	for _, m := range l.Table().Family(b.Owner, l.tree.Nodes[b.Node].Text) {
		list = append(list, m.Node)
	}
	return list
}

// last: the last layer of a parameter's type.
func (l *looker) last(param int) strict.Place {
	return strict.Place{Node: param, Layer: l.tree.Nodes[param].Type.Dims}
}
