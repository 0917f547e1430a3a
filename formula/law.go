package formula

// A set of nodes is an int with a bit for each number: a formula has few nodes, and so sets are compared and copied like numbers.

// Has tells whether node k is in a set.
func Has(set int, k int) bool {
	return set>>uint(k)&1 == 1
}

// With is the set with node k in it, or without it.
func With(set int, k int, in bool) int {
	bit := 1 << uint(k)
	if in {
		return set | bit
	}
	return set &^ bit
}

// Law tells whether the node with the number self holds at a place, from the letter there, the set of the nodes that hold there (of which only those below the node count) and the set of those that hold at the next place.
func Law(node Node, self int, letter int, here int, next int) bool {
	left := Has(here, node.Left)
	right := Has(here, node.Right)
	later := Has(next, self)
	switch node.Op {
	case '1':
		return true
	case 'p':
		return letter&1 != 0
	case 'q':
		return letter&2 != 0
	case 'r':
		return letter&4 != 0
	case '!':
		return !left
	case 'X':
		return Has(next, node.Left)
	case 'F':
		return left || later
	case 'G':
		return left && later
	case '&':
		return left && right
	case '|':
		return left || right
	case 'U':
		return right || left && later
	case 'R':
		return right && (left || later)
	}
	return false
}

// Lasts tells whether a node holds where its law could be put off for ever: G and R ask only that nothing goes wrong, F and U ask that something comes.
func (n Node) Lasts() bool {
	return n.Op == 'G' || n.Op == 'R'
}

// Waits tells whether what a node says could be put off from place to place for ever.
func (n Node) Waits() bool {
	return n.Op == 'F' || n.Op == 'U' || n.Lasts()
}

// End is the number of the node at which a node that waits looks: F and U come true where it holds, G and R go wrong where it does not.
func (n Node) End() int {
	if n.Op == 'U' || n.Op == 'R' {
		return n.Right
	}
	return n.Left
}
