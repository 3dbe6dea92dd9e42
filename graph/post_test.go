package graph_test

import (
	"slices"
	"testing"
)

// P13.3: the examples of the chapter, and the same graph from each node.
func TestPostExample(t *testing.T) {
	wantPost(t, diamond(), 0, nil, 3, 1, 2, 0)
	wantPost(t, diamond(), 0, to(1), 3, 2, 0)
	wantPost(t, diamond(), 1, nil, 2, 0, 3, 1)
	wantPost(t, diamond(), 2, nil, 1, 0, 3, 2)
	wantPost(t, diamond(), 3, nil, 1, 2, 0, 3)
}

// P13.3: nodes that lead nowhere, to themselves, and back.
func TestPostOfSmallGraphs(t *testing.T) {
	wantPost(t, graphOf(nil), 0, nil, 0)
	wantPost(t, graphOf(to()), 0, to(), 0)
	wantPost(t, graphOf(to(0)), 0, nil, 0)
	wantPost(t, graphOf(to(0, 0)), 0, nil, 0)
	wantPost(t, graphOf(nil, nil), 1, nil, 1)
	wantPost(t, graphOf(to(1), nil), 0, nil, 1, 0)
	wantPost(t, graphOf(to(1), nil), 1, nil, 1)
	wantPost(t, graphOf(to(1), to(0)), 0, nil, 1, 0)
	wantPost(t, graphOf(to(1), to(0)), 1, nil, 0, 1)
	wantPost(t, graphOf(to(1), to(1)), 0, nil, 1, 0)
	wantPost(t, graphOf(to(0, 1), to(1, 0)), 0, nil, 1, 0)
	wantPost(t, graphOf(to(1), to(2), to(0)), 1, nil, 0, 2, 1)
}

// P13.3: several edges between the same two nodes count once.
func TestPostOfRepeatedEdges(t *testing.T) {
	wantPost(t, graphOf(to(1, 1, 1), nil), 0, nil, 1, 0)
	wantPost(t, graphOf(to(2, 1, 2), nil, nil), 0, nil, 2, 1, 0)
	wantPost(t, graphOf(to(0, 2, 0, 1, 2, 0), to(2, 2), to(1, 1)), 0, nil, 1, 2, 0)
	wantPost(t, graphOf(append(slices.Repeat(to(2), 10000), 1), nil, nil), 0, nil, 2, 1, 0)
	wantPost(t, graphOf(append(slices.Repeat(to(2, 0), 10000), 1), nil, slices.Repeat(to(0, 2), 10000)), 0, to(1, 1), 2, 0)
}

// P13.3: each list counts in its own order, whatever the numbers of its nodes are.
func TestPostOrderOfLists(t *testing.T) {
	wantPost(t, graphOf(to(1, 2, 3), nil, nil, nil), 0, nil, 1, 2, 3, 0)
	wantPost(t, graphOf(to(3, 2, 1), nil, nil, nil), 0, nil, 3, 2, 1, 0)
	wantPost(t, graphOf(to(2, 3, 1), nil, nil, nil), 0, nil, 2, 3, 1, 0)
	wantPost(t, graphOf(to(5, 4), nil, nil, nil, to(1, 2), to(3, 2)), 0, nil, 3, 2, 5, 1, 4, 0)
	wantPost(t, graphOf(to(4, 5), nil, nil, nil, to(1, 2), to(3, 2)), 0, nil, 1, 2, 4, 3, 5, 0)
}

// P13.3: a way down is gone to its end ahead of what else its nodes lead to, and a node that is entered there is not entered again.
func TestPostDownFirst(t *testing.T) {
	wantPost(t, graphOf(to(1, 4), to(2), to(3), nil, to(5), nil), 0, nil, 3, 2, 1, 5, 4, 0)
	wantPost(t, graphOf(to(1, 2), to(3), to(4), to(5), to(5), nil), 0, nil, 5, 3, 1, 4, 2, 0)
	wantPost(t, graphOf(to(1, 2), to(2, 3), to(1, 4), to(0), to(3)), 0, nil, 3, 4, 2, 1, 0)
	wantPost(t, graphOf(to(1, 2), to(2), nil), 0, nil, 2, 1, 0)
	wantPost(t, graphOf(to(2, 1), to(2), nil), 0, nil, 2, 1, 0)
	wantPost(t, graphOf(to(2, 1), nil, to(1)), 0, nil, 1, 2, 0)
	wantPost(t, graphOf(to(1, 3), to(2), to(0, 3), to(1)), 0, nil, 3, 2, 1, 0)
}

// P13.3: a root that is done yields nothing, wherever it stands in done and however often.
func TestPostOfDoneRoot(t *testing.T) {
	for _, edges := range rightGraphs() {
		for root := range min(len(edges), 4) {
			wantPost(t, edges, root, to(root))
			wantPost(t, edges, root, to(root, root))
			wantPost(t, edges, root, to(0, root))
			wantPost(t, edges, root, to(root, len(edges)-1, root))
			wantPost(t, edges, root, upTo(len(edges)))
		}
	}
}

// P13.3: nodes that are done are left out, with what only they lead to, but not with what others lead to as well.
func TestPostWithDone(t *testing.T) {
	edges := graphOf(to(1, 2, 3), to(4), to(4, 5), nil, to(6), nil, to(0))
	wantPost(t, edges, 0, nil, 6, 4, 1, 5, 2, 3, 0)
	wantPost(t, edges, 0, to(6), 4, 1, 5, 2, 3, 0)
	wantPost(t, edges, 0, to(4), 1, 5, 2, 3, 0)
	wantPost(t, edges, 0, to(1), 6, 4, 5, 2, 3, 0)
	wantPost(t, edges, 0, to(2), 6, 4, 1, 3, 0)
	wantPost(t, edges, 0, to(1, 2), 3, 0)
	wantPost(t, edges, 0, to(2, 1), 3, 0)
	wantPost(t, edges, 0, to(1, 2, 3), 0)
	wantPost(t, edges, 0, to(3, 3, 2, 1, 2, 3), 0)
	wantPost(t, edges, 0, to(5, 5, 5, 3), 6, 4, 1, 2, 0)
	wantPost(t, edges, 0, to(1, 2, 3, 4, 5, 6), 0)
	wantPost(t, edges, 4, to(0), 6, 4)
	wantPost(t, edges, 4, to(2, 3), 1, 0, 6, 4)
	wantPost(t, edges, 5, to(0, 1, 2, 3, 4, 6), 5)
}

// P13.3: what is done and is not on any way has no influence.
func TestPostWithDoneElsewhere(t *testing.T) {
	edges := graphOf(to(1), to(2), nil, to(0, 4), to(3))
	wantPost(t, edges, 0, to(3), 2, 1, 0)
	wantPost(t, edges, 0, to(4, 3, 4), 2, 1, 0)
	wantPost(t, edges, 1, to(0, 3), 2, 1)
	wantPost(t, edges, 3, to(1), 0, 4, 3)
	wantPost(t, edges, 4, nil, 2, 1, 0, 3, 4)
}

// P13.3: a ring is cut where it began, and at what is done.
func TestPostOfRings(t *testing.T) {
	ring := chain(5, 0)
	wantPost(t, ring, 0, nil, 4, 3, 2, 1, 0)
	wantPost(t, ring, 3, nil, 2, 1, 0, 4, 3)
	wantPost(t, ring, 3, to(0), 4, 3)
	wantPost(t, ring, 3, to(4), 3)
	wantPost(t, ring, 3, to(2), 1, 0, 4, 3)
}

// P13.3: 256 nodes in a chain either way, and in a ring, with some of them done.
func TestPostOfChains(t *testing.T) {
	wantPost(t, chain(256), 0, nil, backwards(256)...)
	wantPost(t, chain(256), 255, nil, 255)
	wantPost(t, chainBack(256), 255, nil, upTo(256)...)
	wantPost(t, chainBack(256), 0, nil, 0)
	wantPost(t, chain(256, 0), 0, nil, backwards(256)...)
	wantPost(t, chain(256, 0), 100, nil, append(backwards(100), backwards(256)[:156]...)...)
	wantPost(t, chain(256), 0, to(255), backwards(255)...)
	wantPost(t, chain(256), 0, upTo(256)[1:], 0)
	wantPost(t, make([][]int, 256), 255, upTo(255), 255)
	for cut := 1; cut < 256; cut++ {
		wantPost(t, chain(256), 0, to(cut), backwards(cut)...)
		wantPost(t, chain(256), cut, nil, backwards(256)[:256-cut]...)
	}
}

// P13.3: 256 nodes, each of which leads to all, in either order: the way down goes through all of them.
func TestPostOfWholeGraphs(t *testing.T) {
	wantPost(t, slices.Repeat(graphOf(upTo(256)), 256), 0, nil, backwards(256)...)
	wantPost(t, slices.Repeat(graphOf(backwards(256)), 256), 255, nil, upTo(256)...)
	wantPost(t, slices.Repeat(graphOf(backwards(256)), 256), 0, nil, append(upTo(256)[1:], 0)...)
	wantPost(t, slices.Repeat(graphOf(slices.Repeat(upTo(256), 3)), 256), 7, to(255, 254, 9), slices.Concat(backwards(254)[:244], to(8, 6, 5, 4, 3, 2, 1, 0, 7))...)
}

// P13.4: from a node to those to which it leads, worked out by hand: all before it, but those that lead back.
func TestPostBehindWhatIsNeeded(t *testing.T) {
	// 0 needs 1 and 4; 1, 2 and 3 need each other in a ring; 3 needs 4; 4 needs itself.
	edges := graphOf(to(1, 4), to(2), to(3), to(1, 4), to(4))
	wantPost(t, edges, 0, nil, 4, 3, 2, 1, 0)
	wantPost(t, edges, 2, nil, 1, 4, 3, 2)
	wantPost(t, edges, 0, to(2), 1, 4, 0)
	wantPost(t, edges, 0, to(4), 3, 2, 1, 0)
}
