package graph_test

import (
	"slices"
	"testing"

	"clevis/api"
)

// rightGraphs are valid graphs of many kinds.
func rightGraphs() [][][]int {
	return [][][]int{
		nil,
		{},
		graphOf(nil),
		graphOf(to()),
		graphOf(to(0)),
		graphOf(to(0, 0, 0)),
		graphOf(nil, to(), nil),
		graphOf(to(1), to(0)),
		graphOf(to(1, 1), nil),
		graphOf(to(2), to(2), to(2)),
		graphOf(to(2, 1, 0), nil, to(0, 1, 2)),
		graphOf(nil, nil, nil, to(0)),
		graphOf(slices.Repeat(to(1), 1000), slices.Repeat(to(0, 1), 500)),
		diamond(),
		chain(256),
		chain(256, 0),
		chainBack(256),
		slices.Repeat(graphOf(upTo(256)), 256),
		make([][]int, 256),
	}
}

// wantAllWrong asks all functions of a graph that is not valid: from each of some nodes, from none, and with each of them done.
func wantAllWrong(t *testing.T, edges [][]int) {
	t.Helper()
	wantRight(t, edges, api.ErrGraph)
	wantNoBreadth(t, edges)
	wantNoPost(t, edges, 0)
	for node := range min(len(edges), 5) {
		wantNoBreadth(t, edges, node)
		wantNoBreadth(t, edges, node, node)
		wantNoPost(t, edges, node)
		wantNoPost(t, edges, node, node)
		wantNoPost(t, edges, node, upTo(len(edges))...)
	}
}

// P13.1: valid graphs, also those of no nodes and of 256.
func TestRight(t *testing.T) {
	for _, edges := range rightGraphs() {
		wantRight(t, edges, api.OK)
	}
}

// P13.1: the number of nodes alone, up to 256 and beyond, with lists that are nil and with others.
func TestRightOfEachCount(t *testing.T) {
	for n := range 600 {
		want := api.OK
		if n > 256 {
			want = api.ErrGraph
		}
		wantRight(t, make([][]int, n), want)
		wantRight(t, slices.Repeat(graphOf(to(0)), n), want)
		wantRight(t, slices.Repeat(graphOf(to()), n), want)
	}
	wantRight(t, make([][]int, 1<<16), api.ErrGraph)
	wantRight(t, make([][]int, 1<<20), api.ErrGraph)
}

// P13.1: all functions refuse 257 nodes, even if no list has anything or only the last node is one too many.
func TestTooManyNodes(t *testing.T) {
	wantAllWrong(t, make([][]int, 257))
	wantAllWrong(t, make([][]int, 1000))
	wantAllWrong(t, chain(257))
	wantAllWrong(t, chain(257, 0))
	wantAllWrong(t, slices.Repeat(graphOf(to(0, 1, 255)), 257))
	wantBreadth(t, make([][]int, 256), to(255), 255)
	wantPost(t, make([][]int, 256), 255, to(0), 255)
}

// P13.1: each number in each list is asked, at each of its positions, by all functions.
func TestWrongNumbersInLists(t *testing.T) {
	for _, edges := range rightGraphs() {
		for node := range min(len(edges), 6) {
			for _, wrong := range noNodes(len(edges)) {
				for _, at := range []int{0, len(edges[node]) / 2, len(edges[node])} {
					broken := copyOf(edges)
					broken[node] = slices.Insert(broken[node], at, wrong)
					wantAllWrong(t, broken)
				}
			}
		}
	}
}

// P13.1: a wrong number in the last list, also where no traversal comes there.
func TestWrongNumbersFarAway(t *testing.T) {
	for _, n := range []int{2, 3, 17, 255, 256} {
		for _, wrong := range []int{-1, n, n + 1, 1 << 40} {
			edges := make([][]int, n)
			edges[n-1] = to(wrong)
			wantAllWrong(t, edges)
			edges[0], edges[n-1] = to(0), append(upTo(n), wrong)
			wantAllWrong(t, edges)
			edges = chain(n, wrong)
			wantAllWrong(t, edges)
			edges[n-1] = slices.Repeat(to(0), 5000)
			wantRight(t, edges, api.OK)
			edges[n-1][4999] = wrong
			wantAllWrong(t, edges)
		}
	}
}

// P13.1: a number that is a node of a greater graph is none of a smaller one.
func TestNodesOfASmallerGraph(t *testing.T) {
	for n := 2; n <= 256; n++ {
		edges := make([][]int, n)
		edges[0] = to(n - 1)
		wantRight(t, edges, api.OK)
		wantAllWrong(t, edges[:n-1])
		wantBreadth(t, make([][]int, n), to(n-1), n-1)
		wantPost(t, make([][]int, n), n-1, nil, n-1)
		wantNoBreadth(t, make([][]int, n-1), n-1)
		wantNoPost(t, make([][]int, n-1), n-1)
	}
}

// P13.1: a root that is no node, alone and at each position among others.
func TestWrongRoots(t *testing.T) {
	for _, edges := range rightGraphs() {
		for _, wrong := range noNodes(len(edges)) {
			wantNoBreadth(t, edges, wrong)
			wantNoBreadth(t, edges, wrong, wrong)
			wantNoPost(t, edges, wrong)
			wantNoPost(t, edges, wrong, wrong)
			wantNoPost(t, edges, wrong, upTo(len(edges))...)
			if len(edges) > 0 {
				wantNoBreadth(t, edges, wrong, 0)
				wantNoBreadth(t, edges, 0, wrong)
				wantNoBreadth(t, edges, 0, wrong, 0)
				wantNoBreadth(t, edges, append(upTo(len(edges)), wrong)...)
			}
		}
	}
}

// P13.1: an element of done that is no node, alone and at each position among others, also with the root done.
func TestWrongDone(t *testing.T) {
	for _, edges := range rightGraphs() {
		if len(edges) == 0 {
			continue
		}
		root := len(edges) - 1
		for _, wrong := range noNodes(len(edges)) {
			for _, done := range [][]int{{wrong}, {wrong, root}, {root, wrong}, {root, wrong, root}, append(upTo(len(edges)), wrong), append(to(wrong), upTo(len(edges))...)} {
				wantNoPost(t, edges, root, done...)
				wantNoPost(t, edges, 0, done...)
			}
		}
	}
}

// P13.1: without a node every root is wrong, and so is every element of done. Without a root there is nothing.
func TestNoNodes(t *testing.T) {
	for _, edges := range [][][]int{nil, {}, diamond()[:0]} {
		wantRight(t, edges, api.OK)
		wantBreadth(t, edges, nil)
		wantBreadth(t, edges, to())
		for _, wrong := range append(noNodes(0), upTo(5)...) {
			wantNoBreadth(t, edges, wrong)
			wantNoBreadth(t, edges, wrong, 0)
			wantNoPost(t, edges, wrong)
			wantNoPost(t, edges, wrong, wrong)
			wantNoPost(t, edges, 0, wrong)
		}
	}
}
