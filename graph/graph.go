// Package graph takes the graphs that are handed in.
package graph

import (
	"verdict/api"
	"verdict/word"
)

// Node is a node of a graph. It tells of each node whether an edge goes there, so that however often a number stood in a list, it counts once.
type Node struct {
	Letter int
	Edge   [api.MaxNodes]bool
	Start  bool
}

// Take lists the nodes of a graph, or tells that it is none.
func Take(g api.Graph) ([]Node, bool) {
	count := len(g.Letters)
	if count < 1 || count > api.MaxNodes || len(g.Next) != count {
		return nil, false
	}
	if !word.AllLetters(g.Letters) || len(g.Start) == 0 {
		return nil, false
	}
	start, ok := among(g.Start, count)
	if !ok {
		return nil, false
	}
	var nodes []Node
	for i, letter := range g.Letters {
		edge, ok := edges(g.Next[i], i, count)
		if !ok {
			return nil, false
		}
		nodes = append(nodes, Node{Letter: letter, Edge: edge, Start: start[i]})
	}
	return nodes, true
}

// edges tells to which nodes an edge goes from a node: to itself, if the list names none.
func edges(next []int, self int, count int) ([api.MaxNodes]bool, bool) {
	if len(next) == 0 {
		return among([]int{self}, count)
	}
	return among(next, count)
}

// among tells which nodes stand in a list, or that one of its numbers is no node.
func among(list []int, count int) ([api.MaxNodes]bool, bool) {
	in := [api.MaxNodes]bool{}
	for _, n := range list {
		if n < 0 || n >= count || n >= len(in) {
			return in, false
		}
		in[n] = true
	}
	return in, true
}
