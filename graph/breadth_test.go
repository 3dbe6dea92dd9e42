package graph_test

import (
	"slices"
	"testing"
)

// P13.2: the example of the chapter, from each node.
func TestBreadthExample(t *testing.T) {
	wantBreadth(t, diamond(), to(0), 0, 1, 2, 3)
	wantBreadth(t, diamond(), to(1), 1, 3, 0, 2)
	wantBreadth(t, diamond(), to(2), 2, 3, 0, 1)
	wantBreadth(t, diamond(), to(3), 3, 0, 1, 2)
}

// P13.2: nodes that lead nowhere, to themselves, and back.
func TestBreadthOfSmallGraphs(t *testing.T) {
	wantBreadth(t, graphOf(nil), to(0), 0)
	wantBreadth(t, graphOf(to()), to(0), 0)
	wantBreadth(t, graphOf(to(0)), to(0), 0)
	wantBreadth(t, graphOf(to(0, 0)), to(0, 0), 0)
	wantBreadth(t, graphOf(nil, nil), to(1), 1)
	wantBreadth(t, graphOf(to(1), nil), to(0), 0, 1)
	wantBreadth(t, graphOf(to(1), nil), to(1), 1)
	wantBreadth(t, graphOf(to(1), to(0)), to(1), 1, 0)
	wantBreadth(t, graphOf(to(1), to(1)), to(0), 0, 1)
	wantBreadth(t, graphOf(to(0, 1), to(1, 0)), to(1), 1, 0)
	wantBreadth(t, graphOf(to(0, 2), to(0), nil), to(1), 1, 0, 2)
}

// P13.2: several edges between the same two nodes count once, at the first of them.
func TestBreadthOfRepeatedEdges(t *testing.T) {
	wantBreadth(t, graphOf(to(1, 1, 1), nil), to(0), 0, 1)
	wantBreadth(t, graphOf(to(2, 1, 2), nil, nil), to(0), 0, 2, 1)
	wantBreadth(t, graphOf(to(0, 2, 0, 1, 2, 0), to(2, 2), to(1, 1)), to(0), 0, 2, 1)
	wantBreadth(t, graphOf(to(3, 1, 3, 2, 1, 3), to(3), nil, to(2)), to(0), 0, 3, 1, 2)
	wantBreadth(t, graphOf(append(slices.Repeat(to(2), 10000), 1), nil, nil), to(0), 0, 2, 1)
	wantBreadth(t, graphOf(append(slices.Repeat(to(2, 0), 10000), 1), nil, slices.Repeat(to(0, 2), 10000)), to(0, 0), 0, 2, 1)
}

// P13.2: each list counts in its own order, whatever the numbers of its nodes are.
func TestBreadthOrderOfLists(t *testing.T) {
	wantBreadth(t, graphOf(to(1, 2, 3), nil, nil, nil), to(0), 0, 1, 2, 3)
	wantBreadth(t, graphOf(to(3, 2, 1), nil, nil, nil), to(0), 0, 3, 2, 1)
	wantBreadth(t, graphOf(to(2, 3, 1), nil, nil, nil), to(0), 0, 2, 3, 1)
	wantBreadth(t, graphOf(to(5, 4), nil, nil, nil, to(1, 2), to(3, 2)), to(0), 0, 5, 4, 3, 2, 1)
	wantBreadth(t, graphOf(to(4, 5), nil, nil, nil, to(1, 2), to(3, 2)), to(0), 0, 4, 5, 1, 2, 3)
}

// P13.2: what is near comes before what is far, even if a way down leads to it earlier.
func TestBreadthNearFirst(t *testing.T) {
	wantBreadth(t, graphOf(to(1, 4), to(2), to(3), nil, to(5), nil), to(0), 0, 1, 4, 2, 5, 3)
	wantBreadth(t, graphOf(to(1, 2), to(3), to(4), to(5), to(5), nil), to(0), 0, 1, 2, 3, 4, 5)
	wantBreadth(t, graphOf(to(1, 2), to(2, 3), to(1, 4), to(0), to(3)), to(0), 0, 1, 2, 3, 4)
	wantBreadth(t, graphOf(to(1, 2), to(6, 5), to(4, 3), nil, nil, nil, nil), to(0), 0, 1, 2, 6, 5, 4, 3)
}

// P13.2: no root leads nowhere, in a graph of any size.
func TestBreadthWithoutRoots(t *testing.T) {
	for _, edges := range rightGraphs() {
		wantBreadth(t, edges, nil)
		wantBreadth(t, edges, to())
	}
}

// P13.2: all roots come first, in their order, each once, even if one leads to another.
func TestBreadthFromSeveralRoots(t *testing.T) {
	edges := graphOf(to(3), to(4), to(5), to(1), to(0), nil)
	wantBreadth(t, edges, to(0), 0, 3, 1, 4)
	wantBreadth(t, edges, to(0, 2), 0, 2, 3, 5, 1, 4)
	wantBreadth(t, edges, to(2, 0), 2, 0, 5, 3, 1, 4)
	wantBreadth(t, edges, to(4, 3, 0), 4, 3, 0, 1)
	wantBreadth(t, edges, to(5, 1, 0), 5, 1, 0, 4, 3)
	wantBreadth(t, edges, to(0, 0), 0, 3, 1, 4)
	wantBreadth(t, edges, to(2, 0, 2, 0, 0, 2), 2, 0, 5, 3, 1, 4)
	wantBreadth(t, edges, to(5, 4, 3, 2, 1, 0), 5, 4, 3, 2, 1, 0)
	wantBreadth(t, diamond(), to(3, 1, 3), 3, 1, 0, 2)
	wantBreadth(t, diamond(), to(2, 1), 2, 1, 3, 0)
}

// P13.2: what no root leads to is not in the result.
func TestBreadthLeavesOutOthers(t *testing.T) {
	edges := graphOf(to(1), to(2), to(0), to(0, 4), to(3), to(5), nil)
	wantBreadth(t, edges, to(0), 0, 1, 2)
	wantBreadth(t, edges, to(5), 5)
	wantBreadth(t, edges, to(6, 5), 6, 5)
	wantBreadth(t, edges, to(3), 3, 0, 4, 1, 2)
	wantBreadth(t, edges, to(6, 2), 6, 2, 0, 1)
}

// P13.2: 256 nodes in a chain either way, in a ring, and as roots alone.
func TestBreadthOfChains(t *testing.T) {
	wantBreadth(t, chain(256), to(0), upTo(256)...)
	wantBreadth(t, chain(256), to(255), 255)
	wantBreadth(t, chainBack(256), to(255), backwards(256)...)
	wantBreadth(t, chainBack(256), to(0), 0)
	wantBreadth(t, chain(256, 0), to(0), upTo(256)...)
	wantBreadth(t, chain(256, 0), to(100), append(upTo(256)[100:], upTo(100)...)...)
	wantBreadth(t, chain(256), backwards(256), backwards(256)...)
	wantBreadth(t, make([][]int, 256), backwards(256), backwards(256)...)
	wantBreadth(t, make([][]int, 256), slices.Repeat(backwards(256), 20), backwards(256)...)
	for from := range 256 {
		wantBreadth(t, chain(256), to(from), upTo(256)[from:]...)
	}
}

// P13.2: 256 nodes, each of which leads to all, in either order.
func TestBreadthOfWholeGraphs(t *testing.T) {
	wantBreadth(t, slices.Repeat(graphOf(upTo(256)), 256), to(0), upTo(256)...)
	wantBreadth(t, slices.Repeat(graphOf(backwards(256)), 256), to(255), backwards(256)...)
	wantBreadth(t, slices.Repeat(graphOf(backwards(256)), 256), to(0), append(to(0), backwards(256)[:255]...)...)
	wantBreadth(t, slices.Repeat(graphOf(slices.Repeat(upTo(256), 3)), 256), to(7, 3), slices.Concat(to(7, 3), to(0, 1, 2, 4, 5, 6), upTo(256)[8:])...)
}
