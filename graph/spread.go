package graph

// never is how far it is to what null doesn't come to.
const never = -1

// reach is how null comes to each node: along how many edges, at least, and along which one last.
type reach struct{ far, by []int }

// comes: does null come along an edge, if it comes to a set of nodes?
func comes(set []bool, e Edge) bool { return e.From == Null || set[e.From] }

// spread: how null comes along those edges that are open. The nearest nodes are gone on from first, so that each is found by as few edges as can be.
func (g *Graph) spread(open func(number int) bool) reach {
	r := reach{far: make([]int, g.nodes), by: make([]int, g.nodes)}
	for node := range g.nodes {
		r.far[node] = never
	}
	line := []int{Null}
	for len(line) > 0 {
		from := line[0]
		line = line[1:]
		next := 1
		if from != Null {
			next += r.far[from]
		}
		for _, number := range g.out[from] {
			to := g.edges[number].To
			if r.far[to] == never && open(number) {
				r.far[to], r.by[to] = next, number
				line = append(line, to)
			}
		}
	}
	return r
}

// nodes: of each one whether null comes to it.
func (r reach) nodes() []bool {
	set := make([]bool, len(r.far))
	for node, far := range r.far {
		set[node] = far != never
	}
	return set
}
