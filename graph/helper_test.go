package graph_test

import (
	"fmt"
	"math"
	"slices"
	"testing"

	"clevis/api"
	"clevis/graph"
)

// graphOf has one list for each node, from node 0 on.
func graphOf(lists ...[]int) [][]int { return lists }

// to is the list of a node.
func to(nodes ...int) []int { return nodes }

// diamond is the graph of the chapter's examples.
func diamond() [][]int { return graphOf(to(1, 2), to(3), to(3), to(0)) }

// upTo are the nodes of a graph of n nodes, in order.
func upTo(n int) []int {
	nodes := make([]int, n)
	for i := range nodes {
		nodes[i] = i
	}
	return nodes
}

// backwards are the nodes of a graph of n nodes from the last one on.
func backwards(n int) []int {
	nodes := upTo(n)
	slices.Reverse(nodes)
	return nodes
}

// chain has n nodes, each of which leads to the next one. The last one leads to those that are given.
func chain(n int, last ...int) [][]int {
	edges := make([][]int, n)
	for i := range n - 1 {
		edges[i] = to(i + 1)
	}
	edges[n-1] = last
	return edges
}

// chainBack is a chain from the last node to the first one.
func chainBack(n int) [][]int {
	edges := make([][]int, n)
	for i := 1; i < n; i++ {
		edges[i] = to(i - 1)
	}
	return edges
}

// copyOf returns the same graph in memory of its own, with no room behind any list.
func copyOf(edges [][]int) [][]int {
	own := make([][]int, len(edges))
	for i, list := range edges {
		own[i] = slices.Clip(slices.Clone(list))
	}
	return own
}

// noNodes are numbers that are no nodes of a graph of n nodes, as long as it is valid.
func noNodes(n int) []int {
	return []int{-1, -2, -n - 1, n, n + 1, 1 << 8, 1<<8 + 1, 1 << 16, 1 << 32, -1 << 32, math.MaxInt, math.MinInt}
}

// text has a graph within the bounds of a line of a report.
func text(edges [][]int) string {
	all := fmt.Sprintf("%d nodes %v", len(edges), edges)
	return all[:min(len(all), 200)]
}

func wantRight(t *testing.T, edges [][]int, want api.Errno) {
	t.Helper()
	if e := graph.Right(edges); e != want {
		t.Errorf("Right of %s is %d, want %d", text(edges), e, want)
	}
}

// wantBreadth asks for the same nodes of Breadth and, without their order, of Reach.
func wantBreadth(t *testing.T, edges [][]int, roots []int, want ...int) {
	t.Helper()
	if got, e := graph.Breadth(edges, roots...); !slices.Equal(got, want) || e != api.OK {
		t.Errorf("Breadth of %s from %v is %v and %d, want %v and 0", text(edges), roots, got, e, want)
	}
	reached := make([]bool, len(edges))
	for _, node := range want {
		reached[node] = true
	}
	if got, e := graph.Reach(edges, roots...); !slices.Equal(got, reached) || e != api.OK {
		t.Errorf("Reach of %s from %v is %v and %d, want %v and 0", text(edges), roots, got, e, reached)
	}
}

func wantPost(t *testing.T, edges [][]int, root int, done []int, want ...int) {
	t.Helper()
	if got, e := graph.Post(edges, root, done...); !slices.Equal(got, want) || e != api.OK {
		t.Errorf("Post of %s from %d without %v is %v and %d, want %v and 0", text(edges), root, done, got, e, want)
	}
}

func wantNoBreadth(t *testing.T, edges [][]int, roots ...int) {
	t.Helper()
	if got, e := graph.Breadth(edges, roots...); len(got) != 0 || e != api.ErrGraph {
		t.Errorf("Breadth of %s from %v is %v and %d, want nothing and 130", text(edges), roots, got, e)
	}
	if got, e := graph.Reach(edges, roots...); len(got) != 0 || e != api.ErrGraph {
		t.Errorf("Reach of %s from %v is %v and %d, want nothing and 130", text(edges), roots, got, e)
	}
}

func wantNoPost(t *testing.T, edges [][]int, root int, done ...int) {
	t.Helper()
	if got, e := graph.Post(edges, root, done...); len(got) != 0 || e != api.ErrGraph {
		t.Errorf("Post of %s from %d without %v is %v and %d, want nothing and 130", text(edges), root, done, got, e)
	}
}
