package graph_test

import (
	"slices"
	"testing"

	"clevis/api"
	"clevis/graph"
)

// behind is in the room behind each list that is given. It is a node of the graphs here, so that it would be taken if it were read.
const behind = 1

// withRoom returns the same nodes in memory of their own, with room behind them.
func withRoom(nodes []int) []int {
	return append(slices.Clone(nodes), behind, behind, behind, behind)[:len(nodes)]
}

// graphWithRoom returns the same graph in memory of its own, with room behind each list and behind all of them.
func graphWithRoom(edges [][]int) [][]int {
	var own [][]int
	for _, list := range edges {
		own = append(own, withRoom(list))
	}
	return append(own, to(behind), to(behind))[:len(edges)]
}

// whole returns all that is in the memory of a graph, its room as well.
func whole(edges [][]int) [][]int {
	var all [][]int
	for _, list := range edges[:cap(edges)] {
		all = append(all, slices.Clone(list[:cap(list)]))
	}
	return all
}

func sameGraph(a, b [][]int) bool { return slices.EqualFunc(a, b, slices.Equal[[]int]) }

// graphsWithTwo are graphs, valid and not, in which there is a node 1.
func graphsWithTwo() [][][]int {
	return [][][]int{diamond(), chain(256), graphOf(to(2, 0), nil, to(1)), graphOf(nil, nil), graphOf(to(0, 1), to(2)), make([][]int, 257)}
}

// W6: all functions leave what they are given, with what is behind it, as it was.
func TestArgumentsStay(t *testing.T) {
	for _, edges := range graphsWithTwo() {
		for _, nodes := range [][]int{nil, {0}, {1, 0}, {1, 1, 0}, {-1}, {0, 1, -1}} {
			own, list := graphWithRoom(edges), withRoom(nodes)
			was, wasList := whole(own), slices.Clone(list[:cap(list)])
			graph.Right(own)
			graph.Breadth(own, list...)
			graph.Reach(own, list...)
			graph.Post(own, 0, list...)
			graph.Post(own, -1, list...)
			if !sameGraph(whole(own), was) || !slices.Equal(list[:cap(list)], wasList) {
				t.Errorf("%s and %v: changed to %s and %v", text(was), wasList, text(whole(own)), list[:cap(list)])
			}
		}
	}
}

// W6: results have no memory of what is given: they may be written to, and grow, without a change of it.
func TestResultsAreNew(t *testing.T) {
	for _, edges := range graphsWithTwo() {
		for _, nodes := range [][]int{nil, {0}, {1, 0}, {0, 1}} {
			own, list := graphWithRoom(edges), withRoom(nodes)
			was, wasList := whole(own), slices.Clone(list[:cap(list)])
			order, _ := graph.Breadth(own, list...)
			post, _ := graph.Post(own, 0, list...)
			for _, result := range [][]int{order, post} {
				for i := range result[:cap(result)] {
					result[:cap(result)][i] = 77
				}
				_ = append(result, 77)
			}
			if !sameGraph(whole(own), was) || !slices.Equal(list[:cap(list)], wasList) {
				t.Errorf("%s and %v: changed to %s and %v", text(was), wasList, text(whole(own)), list[:cap(list)])
			}
		}
	}
}

// W6: results of two calls share no memory, also where nothing has changed between them.
func TestResultsAreSeparate(t *testing.T) {
	edges, roots, done := graphWithRoom(diamond()), withRoom(to(0, 1)), withRoom(to(1))
	one, _ := graph.Breadth(edges, roots...)
	two, _ := graph.Breadth(edges, roots...)
	reached, _ := graph.Reach(edges, roots...)
	again, _ := graph.Reach(edges, roots...)
	post, _ := graph.Post(edges, 0, done...)
	other, _ := graph.Post(edges, 0, done...)
	clear(one[:cap(one)])
	clear(reached[:cap(reached)])
	clear(post[:cap(post)])
	if !slices.Equal(two, to(0, 1, 2, 3)) || slices.Contains(again, false) || !slices.Equal(other, to(3, 2, 0)) {
		t.Errorf("%v, %v and %v then", two, again, other)
	}
	wantBreadth(t, edges, roots, 0, 1, 2, 3)
	wantPost(t, edges, 0, done, 3, 2, 0)
}

// W6: nothing that was given is kept, so that it may be another graph then.
func TestNothingIsKept(t *testing.T) {
	edges, roots, done := graphWithRoom(diamond()), withRoom(to(3)), withRoom(to(2))
	order, _ := graph.Breadth(edges, roots...)
	reached, _ := graph.Reach(edges, roots...)
	post, _ := graph.Post(edges, 0, done...)
	edges[0][0], edges[0][1], edges[3] = 3, 3, nil
	roots[0], done[0] = 0, 1
	if !slices.Equal(order, to(3, 0, 1, 2)) || slices.Contains(reached, false) || !slices.Equal(post, to(3, 1, 0)) {
		t.Errorf("%v, %v and %v then", order, reached, post)
	}
	wantBreadth(t, edges, roots, 0, 3)
	wantPost(t, edges, 0, done, 3, 0)
}

// W6: lists of a graph may share their memory with each other, and with the roots and what is done.
func TestListsThatShare(t *testing.T) {
	nodes := to(0, 1, 2, 3)
	edges := graphOf(nodes[1:3], nodes[3:], nodes[3:4], nodes[:1])
	wantBreadth(t, edges, nodes[:1], 0, 1, 2, 3)
	wantBreadth(t, edges, nodes[2:], 2, 3, 0, 1)
	wantPost(t, edges, 0, nodes[1:2], 3, 2, 0)
	wantPost(t, edges, 3, nodes[2:3], 1, 0, 3)
	if !slices.Equal(nodes, to(0, 1, 2, 3)) {
		t.Errorf("changed to %v", nodes)
	}
}

// W5: lists that are nil, and those that are empty.
func TestNilAndEmpty(t *testing.T) {
	for _, edges := range [][][]int{graphOf(to(1), nil, nil), graphOf(to(1), to(), nil), graphOf(to(1), to(), to())} {
		wantRight(t, edges, api.OK)
		for _, none := range [][]int{nil, {}, to(1)[:0]} {
			wantBreadth(t, edges, none)
			wantBreadth(t, edges, to(0), 0, 1)
			wantPost(t, edges, 0, none, 1, 0)
			wantPost(t, edges, 2, none, 2)
		}
	}
}

// W2: the same calls return the same results, whatever was called between.
func TestCallsDependOnNothingElse(t *testing.T) {
	for range 3 {
		wantBreadth(t, diamond(), to(0), 0, 1, 2, 3)
		wantNoBreadth(t, diamond(), 0, 4)
		wantPost(t, diamond(), 0, to(1), 3, 2, 0)
		wantNoPost(t, diamond(), 0, 1, -1)
		wantRight(t, make([][]int, 257), api.ErrGraph)
		wantPost(t, diamond(), 0, nil, 3, 1, 2, 0)
		wantBreadth(t, chain(256), to(254), 254, 255)
		wantPost(t, chain(256), 254, nil, 255, 254)
		wantNoPost(t, graphOf(to(1)), 0)
		wantBreadth(t, graphOf(nil, nil), nil)
	}
}
