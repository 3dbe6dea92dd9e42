package graph

// walk is a traversal of a valid graph, from its beginning on.
type walk struct {
	edges  [][]int
	closed []bool // the nodes that are not entered any more
	order  []int
}

func newWalk(edges [][]int) *walk {
	return &walk{edges: edges, closed: make([]bool, len(edges))}
}

// spread returns the whole walk from the roots on, nearest first.
func spread(edges [][]int, roots ...int) *walk {
	w := newWalk(edges)
	w.enter(roots...)
	// The order is also the queue of the nodes whose lists are still to be entered.
	for next := 0; next < len(w.order); next++ {
		w.enter(edges[w.order[next]]...)
	}
	return w
}

// close keeps the walk out of the nodes, without any of them in its order.
func (w *walk) close(nodes ...int) {
	for _, node := range nodes {
		w.closed[node] = true
	}
}

// enter puts the nodes into the order as they come.
func (w *walk) enter(nodes ...int) {
	for _, node := range nodes {
		if !w.closed[node] {
			w.close(node)
			w.order = append(w.order, node)
		}
	}
}

// descend puts each of the nodes into the order when it is left. It is nested no deeper than there are nodes, as each is entered once.
func (w *walk) descend(nodes ...int) {
	for _, node := range nodes {
		if !w.closed[node] {
			w.close(node)
			w.descend(w.edges[node]...)
			w.order = append(w.order, node)
		}
	}
}
