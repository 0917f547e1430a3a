// Package outlook tells what can still come of a formula when the beginning of an endless word is known.
package outlook

import (
	"verdict/api"
	"verdict/formula"
)

// View is the set of the nodes that hold at a place of an endless word. A formula has at most eight nodes, so a byte is wide enough, and no view lies outside a Group.
type View = uint8

// Views is how many views there are.
const Views = 1 << api.MaxSize

// Group tells of each view whether it belongs to the group.
type Group [Views]bool

// Outlook is what must be known of a formula to follow it letter by letter.
type Outlook struct {
	// before has, by the letter at a place and the view at the next place, the view at the place: the laws leave no choice.
	before [api.Letters][Views]View
	// calm has, for each node that can be put off, the views in which it is not.
	calm []Group
	// living has the views that some endless word has at its first place.
	living Group
	// begin has those living views in which the whole formula holds.
	begin Group
}

// Look makes the outlook of a formula, as Parse lists it.
func Look(nodes []formula.Node) Outlook {
	o := Outlook{}
	for letter := range o.before {
		for next := range o.before[letter] {
			o.before[letter][next] = before(nodes, letter, next)
		}
	}
	for k, node := range nodes {
		if node.Waits() {
			calm := settled(node, k)
			o.calm = append(o.calm, calm)
		}
	}
	o.living = o.findLiving()
	for view := range o.living {
		holds := formula.Has(view, len(nodes)-1)
		o.begin[view] = o.living[view] && holds
	}
	return o
}

func (o *Outlook) findLiving() Group {
	w := anyWay()
	lasting := o.lasting(w)
	if len(lasting) == 0 {
		return Group{}
	}
	return lasting[0]
}

func before(nodes []formula.Node, letter int, next int) View {
	here := 0
	for k, node := range nodes {
		holds := formula.Law(node, k, letter, here, next)
		here = formula.With(here, k, holds)
	}
	return View(here)
}

// Begin is the group of the views with which the formula comes true, when nothing has been read.
func (o *Outlook) Begin() Group {
	return o.begin
}

// Step is the group of the views with which the formula comes true when one more letter has been read. Views that are not living never matter, and stay outside.
func (o *Outlook) Step(from Group, letter int) Group {
	to := Group{}
	if letter < 0 || letter >= len(o.before) {
		return to
	}
	for next := range to {
		to[next] = o.living[next] && from[o.before[letter][next]]
	}
	return to
}

// Verdict tells what a group that Begin and Step made says of the formula: each living view comes with some endless word.
func (o *Outlook) Verdict(g Group) int {
	if g == o.living {
		return api.True
	}
	if g == (Group{}) {
		return api.False
	}
	return api.Unknown
}

// Judge tells the verdict on a word.
func (o *Outlook) Judge(u []int) int {
	g := o.Begin()
	for _, letter := range u {
		g = o.Step(g, letter)
	}
	return o.Verdict(g)
}
