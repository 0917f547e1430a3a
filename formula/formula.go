// Package formula reads formulas and knows how what holds at a place follows from the letter there and from the next place.
package formula

import "verdict/api"

// Node is one sign of a formula. Left and Right are the numbers of the nodes below it; a leaf uses neither, a node with one formula behind it uses Left alone.
type Node struct {
	Op    byte
	Left  int
	Right int
}

// reader goes through the text once, from left to right.
type reader struct {
	text  string
	at    int
	nodes []Node
}

// Parse lists the nodes of a formula so that each stands behind those below it: whoever works through the list in order has what a node needs, and the last node is the whole formula.
func Parse(text string) ([]Node, api.Errno) {
	// The length comes first also because it bounds how deep the reader goes.
	if len(text) > api.MaxText {
		return nil, api.ErrLong
	}
	r := reader{text: text}
	ok := r.formula()
	if !ok || r.at != len(text) {
		return nil, api.ErrFormula
	}
	if len(r.nodes) > api.MaxSize {
		return nil, api.ErrSize
	}
	return r.nodes, api.OK
}

// take answers 0 behind the end: no sign of a formula is the byte 0, so it is refused there like any other wrong byte.
func (r *reader) take() byte {
	if r.at < 0 || r.at >= len(r.text) {
		return 0
	}
	b := r.text[r.at]
	r.at++
	return b
}

func (r *reader) add(op byte, left int, right int) {
	r.nodes = append(r.nodes, Node{Op: op, Left: left, Right: right})
}

// formula ends, since it takes a byte before it asks for a formula again. If it answers true, the node it read is the last one.
func (r *reader) formula() bool {
	op := r.take()
	switch op {
	case '0', '1', 'p', 'q', 'r':
		r.add(op, 0, 0)
		return true
	case '!', 'X', 'F', 'G':
		return r.single(op)
	case '(':
		return r.pair()
	}
	return false
}

func (r *reader) single(op byte) bool {
	ok := r.formula()
	if !ok {
		return false
	}
	below := len(r.nodes) - 1
	r.add(op, below, 0)
	return true
}

func (r *reader) pair() bool {
	ok := r.formula()
	if !ok {
		return false
	}
	left := len(r.nodes) - 1
	op := r.take()
	if !joins(op) {
		return false
	}
	ok = r.formula()
	if !ok {
		return false
	}
	right := len(r.nodes) - 1
	end := r.take()
	if end != ')' {
		return false
	}
	r.add(op, left, right)
	return true
}

func joins(op byte) bool {
	return op == '&' || op == '|' || op == 'U' || op == 'R'
}
