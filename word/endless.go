package word

import (
	"verdict/api"
	"verdict/formula"
)

// Endless is the endless word of a stem and a loop. Behind the last of its letters comes the one at back again.
type Endless struct {
	letters []int
	back    int
}

// Join makes the endless word of a stem and a loop. It copies them, so that neither their room nor their spare room is used.
func Join(stem []int, loop []int) (Endless, api.Errno) {
	if len(loop) == 0 {
		return Endless{}, api.ErrLoop
	}
	if len(stem) > api.MaxWord || len(loop) > api.MaxWord {
		return Endless{}, api.ErrWord
	}
	stemRight := AllLetters(stem)
	loopRight := AllLetters(loop)
	if !stemRight || !loopRight {
		return Endless{}, api.ErrLetter
	}
	letters := make([]int, 0, len(stem)+len(loop))
	letters = append(letters, stem...)
	letters = append(letters, loop...)
	return Endless{letters: letters, back: len(stem)}, api.OK
}

// place is a letter and the set of the nodes that hold there.
type place struct {
	letter int
	held   int
}

// table has the places that differ: all later ones are like one of the loop.
type table struct {
	places []place
	back   int
}

// Holds tells whether a formula, as Parse lists it, holds of the endless word.
func (w Endless) Holds(nodes []formula.Node) bool {
	t := table{back: w.back}
	for _, letter := range w.letters {
		t.places = append(t.places, place{letter: letter})
	}
	for k, node := range nodes {
		t.fill(node, k)
	}
	if len(t.places) == 0 {
		return false
	}
	return formula.Has(t.places[0].held, len(nodes)-1)
}

// fill settles a node at every place. What a node waits for from a place of the loop comes within one round or never: so the first sweep settles it at the place to which the loop goes back, and the second one everywhere.
func (t *table) fill(node formula.Node, k int) {
	lasts := node.Lasts()
	for i := range t.places {
		t.places[i].held = formula.With(t.places[i].held, k, lasts)
	}
	t.sweep(node, k)
	t.sweep(node, k)
}

// sweep goes from the last place to the first, since each place hangs on the next.
func (t *table) sweep(node formula.Node, k int) {
	if t.back < 0 || t.back >= len(t.places) {
		return
	}
	next := t.places[t.back].held
	for i := len(t.places) - 1; i >= 0; i-- {
		here := t.places[i]
		holds := formula.Law(node, k, here.letter, here.held, next)
		here.held = formula.With(here.held, k, holds)
		t.places[i] = here
		next = here.held
	}
}
