package graph

import (
	"math"
	"slices"
	"testing"

	"verdict/api"
)

func TestTake(t *testing.T) {
	g := api.Graph{Letters: []int{1, 7, 0}, Next: [][]int{{2, 0, 2, 2}, nil, {}}, Start: []int{2, 0, 0}}
	want := []Node{
		{Letter: 1, Edge: [api.MaxNodes]bool{0: true, 2: true}, Start: true},
		{Letter: 7, Edge: [api.MaxNodes]bool{1: true}},
		{Letter: 0, Edge: [api.MaxNodes]bool{2: true}, Start: true},
	}
	nodes, ok := Take(g)
	if !ok || !slices.Equal(nodes, want) {
		t.Errorf("P9: Take(%v) = %v, %v, want %v", g, nodes, ok, want)
	}
}

func TestHowManyNodes(t *testing.T) {
	for count := 0; count <= 8; count++ {
		for nexts := 0; nexts <= 8; nexts++ {
			for _, next := range [][]int{nil, {0}} {
				g := api.Graph{Letters: make([]int, count), Next: slices.Repeat([][]int{next}, nexts), Start: []int{0}}
				nodes, ok := Take(g)
				want := count == nexts && count >= 1 && count <= 6
				if ok != want || want && len(nodes) != count || !want && len(nodes) != 0 {
					t.Errorf("P9: %d letters and %d lists: %v, %v", count, nexts, nodes, ok)
				}
			}
		}
	}
}

func TestEachNumber(t *testing.T) {
	for _, n := range []int{math.MinInt, -1, 0, 1, 2, 3, 5, 6, 7, 8, 1 << 32, math.MaxInt} {
		isNode, isLetter := n >= 0 && n < 3, n >= 0 && n < 8
		for i := 0; i < 3; i++ {
			g := api.Graph{Letters: []int{1, 2, 3}, Next: [][]int{{0, 1}, {1}, {0}}, Start: []int{0, 1, 2}}
			g.Letters[i] = n
			if _, ok := Take(g); ok != isLetter {
				t.Errorf("P9: letter %d is %d: %v", i, n, ok)
			}
			g.Letters[i] = 0
			g.Start[i] = n
			if _, ok := Take(g); ok != isNode {
				t.Errorf("P9: start %d is %d: %v", i, n, ok)
			}
			g.Start[i] = 0
			g.Next[i] = append(g.Next[i], n)
			if _, ok := Take(g); ok != isNode {
				t.Errorf("P9: an edge from %d goes to %d: %v", i, n, ok)
			}
		}
	}
}

func TestStartIsNotEmpty(t *testing.T) {
	for _, start := range [][]int{nil, {}} {
		if nodes, ok := Take(api.Graph{Letters: []int{0}, Next: [][]int{{0}}, Start: start}); ok || len(nodes) != 0 {
			t.Errorf("P9: no node to begin with: %v, %v", nodes, ok)
		}
	}
}
