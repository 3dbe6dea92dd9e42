package graph_test

import (
	"math/rand/v2"
	"slices"
	"testing"

	"clevis/api"
	"clevis/graph"
)

// firsts returns the nodes of a list, each once, where it comes first.
func firsts(nodes []int) []int {
	var once []int
	for _, node := range nodes {
		if !slices.Contains(once, node) {
			once = append(once, node)
		}
	}
	return once
}

// modelBreadth begins with the roots alone, and puts the lists of what it has behind them till nothing is new.
func modelBreadth(edges [][]int, roots []int) []int {
	order := firsts(roots)
	for {
		all := slices.Clone(roots)
		for _, node := range order {
			all = append(all, edges[node]...)
		}
		next := firsts(all)
		if slices.Equal(next, order) {
			return order
		}
		order = next
	}
}

// modelPost keeps the way down as a list of nodes and, for each of them, of what it leads to and was not looked at yet.
func modelPost(edges [][]int, root int, done []int) []int {
	entered := map[int]bool{}
	var left, way []int
	rest := map[int][]int{}
	enter := func(node int) {
		if entered[node] || slices.Contains(done, node) {
			return
		}
		entered[node] = true
		way = append(way, node)
		rest[node] = edges[node]
	}
	enter(root)
	for len(way) > 0 {
		last := way[len(way)-1]
		if len(rest[last]) == 0 {
			way = way[:len(way)-1]
			left = append(left, last)
			continue
		}
		next := rest[last][0]
		rest[last] = rest[last][1:]
		enter(next)
	}
	return left
}

// ways tells for each two nodes whether the first one leads to the other one, by at least one edge, past nothing that is done.
func ways(edges [][]int, done []int) [][]bool {
	leads := make([][]bool, len(edges))
	for from, list := range edges {
		leads[from] = make([]bool, len(edges))
		for _, node := range list {
			leads[from][node] = !slices.Contains(done, from) && !slices.Contains(done, node)
		}
	}
	for by := range edges {
		for from := range edges {
			for node := range edges {
				leads[from][node] = leads[from][node] || leads[from][by] && leads[by][node]
			}
		}
	}
	return leads
}

func compareBreadth(t *testing.T, edges [][]int, roots ...int) {
	t.Helper()
	wantBreadth(t, edges, roots, modelBreadth(edges, roots)...)
}

func comparePost(t *testing.T, edges [][]int, root int, done ...int) {
	t.Helper()
	wantPost(t, edges, root, done, modelPost(edges, root, done)...)
}

// checkBehind asks P13.4 of a result of Post, and that it has exactly the nodes to which there is a way.
func checkBehind(t *testing.T, edges [][]int, root int, done ...int) {
	t.Helper()
	order, e := graph.Post(edges, root, done...)
	leads := ways(edges, done)
	for node := range edges {
		isAt := slices.Index(order, node)
		isMeant := !slices.Contains(done, root) && (node == root || leads[root][node])
		if e != api.OK || isMeant != (isAt >= 0) {
			t.Errorf("Post of %s from %d without %v is %v and %d: node %d", text(edges), root, done, order, e, node)
		}
		if isAt < 0 {
			continue
		}
		for _, needed := range edges[node] {
			if !slices.Contains(done, needed) && !leads[needed][node] && !slices.Contains(order[:isAt], needed) {
				t.Errorf("Post of %s from %d without %v is %v: %d is not behind %d", text(edges), root, done, order, node, needed)
			}
		}
	}
	if len(order) != len(firsts(order)) {
		t.Errorf("Post of %s from %d without %v is %v", text(edges), root, done, order)
	}
}

// lists are all lists of at most so many nodes of a graph of n.
func lists(n, most int) [][]int {
	all := [][]int{nil}
	for from := 0; from < len(all) && len(all[from]) < most; from++ {
		for node := range n {
			all = append(all, append(slices.Clone(all[from]), node))
		}
	}
	return all
}

// eachGraph goes through all graphs of n nodes, each of which has one of the lists.
func eachGraph(n int, lists [][]int, visit func(edges [][]int)) {
	edges := make([][]int, n)
	var choose func(node int)
	choose = func(node int) {
		if node == n {
			visit(edges)
			return
		}
		for _, list := range lists {
			edges[node] = list
			choose(node + 1)
		}
	}
	choose(0)
}

// P13.2: all graphs of at most three nodes that lead to at most two each, from all lists of at most three roots.
func TestBreadthByDefinition(t *testing.T) {
	for n := range 4 {
		roots := lists(n, 3)
		eachGraph(n, lists(n, 2), func(edges [][]int) {
			for _, from := range roots {
				compareBreadth(t, edges, from...)
			}
		})
	}
}

// P13.3 and P13.4: the same graphs, from each root, with all lists of at most two nodes done.
func TestPostByDefinition(t *testing.T) {
	for n := range 4 {
		dones := lists(n, 2)
		eachGraph(n, lists(n, 2), func(edges [][]int) {
			for root := range n {
				for _, done := range dones {
					comparePost(t, edges, root, done...)
					checkBehind(t, edges, root, done...)
				}
			}
		})
	}
}

// P13.2 to P13.4: all graphs of four nodes, each of which leads to none, to one or to two others, or to some more.
func TestFourNodesByDefinition(t *testing.T) {
	some := [][]int{nil, to(0), to(1), to(2), to(3), to(1, 2), to(3, 1), to(2, 3), to(0, 3, 2), to(3, 2, 1, 0)}
	eachGraph(4, some, func(edges [][]int) {
		compareBreadth(t, edges, 0)
		compareBreadth(t, edges, 3, 1)
		comparePost(t, edges, 0)
		comparePost(t, edges, 2, 3)
		checkBehind(t, edges, 0)
		checkBehind(t, edges, 2, 3)
	})
}

// someNodes returns so many nodes of a graph, in any order, some of them several times.
func someNodes(r *rand.Rand, edges [][]int, count int) []int {
	nodes := make([]int, count)
	for i := range nodes {
		nodes[i] = r.IntN(len(edges))
	}
	return nodes
}

// someGraph has n nodes, which lead to so many at most, mostly to others behind them if it is to have few ways back.
func someGraph(r *rand.Rand, n, most int, isForward bool) [][]int {
	edges := make([][]int, n)
	for i := range edges {
		edges[i] = someNodes(r, edges, r.IntN(most+1))
		for j, node := range edges[i] {
			if isForward && node <= i && r.IntN(20) > 0 {
				edges[i][j] = min(i+1+r.IntN(10), n-1)
			}
		}
	}
	return edges
}

// P13.2 to P13.4: graphs of up to 256 nodes, with few edges and with many.
func TestGreatGraphsByDefinition(t *testing.T) {
	r := rand.New(rand.NewPCG(13, 1))
	for _, n := range []int{1, 2, 5, 10, 30, 100, 255, 256} {
		for _, most := range []int{1, 2, 3, 8, 300} {
			for _, isForward := range []bool{false, true} {
				edges := someGraph(r, n, most, isForward)
				wantRight(t, edges, api.OK)
				compareBreadth(t, edges, 0)
				compareBreadth(t, edges, someNodes(r, edges, 3)...)
				compareBreadth(t, edges, someNodes(r, edges, 1+n/2)...)
				for _, count := range []int{0, 1, n / 8, n / 2} {
					comparePost(t, edges, 0, someNodes(r, edges, count)...)
					comparePost(t, edges, r.IntN(n), someNodes(r, edges, count)...)
				}
				checkBehind(t, edges, 0)
				checkBehind(t, edges, 0, someNodes(r, edges, n/8)...)
			}
		}
	}
}

// numbers reads each byte as a number from -128 to 127.
func numbers(b []byte) []int {
	var all []int
	for _, c := range b {
		all = append(all, int(int8(c)))
	}
	return all
}

// isRight goes by the words of the chapter.
func isRight(edges [][]int, nodes ...int) bool {
	all := append(slices.Concat(edges...), nodes...)
	return len(edges) <= 256 && (len(all) == 0 || slices.Min(all) >= 0 && slices.Max(all) < len(edges))
}

// P13.1 to P13.4: graphs of any kind, whose lists end at bytes of 100, with wrong numbers and without.
func FuzzGraphs(f *testing.F) {
	f.Add([]byte{1, 2, 100, 3, 100, 3, 100, 0, 100}, []byte{0}, 0, []byte{1})
	f.Add([]byte{100, 100, 0, 0, 100}, []byte{2, 1, 2}, 2, []byte{})
	f.Add([]byte{}, []byte{}, 0, []byte{})
	f.Add([]byte{1, 100, 2, 100}, []byte{255}, -1, []byte{2})
	f.Add(slices.Repeat([]byte{99, 0, 100}, 256), []byte{0, 99}, 255, []byte{0})
	f.Add(slices.Repeat([]byte{100}, 257), []byte{}, 256, []byte{})
	f.Fuzz(func(t *testing.T, b, rootBytes []byte, root int, doneBytes []byte) {
		var edges [][]int
		list := []int{}
		for _, number := range numbers(b) {
			if list = append(list, number); number == 100 {
				edges, list = append(edges, list[:len(list)-1]), nil
			}
		}
		roots, done := numbers(rootBytes), numbers(doneBytes)
		if isRight(edges) != (graph.Right(edges) == api.OK) {
			t.Errorf("Right of %s", text(edges))
		}
		if isRight(edges, roots...) {
			compareBreadth(t, edges, roots...)
		} else {
			wantNoBreadth(t, edges, roots...)
		}
		if isRight(edges, append(done, root)...) {
			comparePost(t, edges, root, done...)
			checkBehind(t, edges, root, done...)
		} else {
			wantNoPost(t, edges, root, done...)
		}
	})
}
