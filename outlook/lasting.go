package outlook

import "verdict/formula"

// stand is a spot with a view there.
type stand struct {
	spot int
	view View
}

// in tells whether a stand is in the groups of the spots.
func (at stand) in(groups []Group) bool {
	return at.spot >= 0 && at.spot < len(groups) && groups[at.spot][at.view]
}

// settled has the views in which a node is not put off. F and U are put off where they hold and their end does not, G and R where they do not hold and their end does; the other way round, the laws leave no such view.
func settled(node formula.Node, k int) Group {
	calm := Group{}
	end := node.End()
	for view := range calm {
		holds := formula.Has(view, k)
		ends := formula.Has(view, end)
		calm[view] = holds == ends
	}
	return calm
}

// lasting has for each spot the views from which a word can take the ways for ever as the laws say, with nothing put off for ever.
func (o *Outlook) lasting(w ways) []Group {
	left := make([]Group, len(w.into))
	for spot := range left {
		for view := range left[spot] {
			left[spot][view] = true
		}
	}
	// It ends, since each round but the last drops a view of a spot.
	for {
		fewer := o.drop(w, left)
		if same(fewer, left) {
			return left
		}
		left = fewer
	}
}

// drop leaves the views from which one comes to a place where a node is not put off, for each node that can be. A view that stays in every round can do so again and again.
func (o *Outlook) drop(w ways, groups []Group) []Group {
	// A formula in which nothing can be put off must have a next place all the same.
	left := o.leads(w, groups)
	for _, calm := range o.calm {
		goal := both(left, calm)
		left = o.leads(w, goal)
	}
	return left
}

// leads has for each spot the views from which one way or more lead to the goal.
func (o *Outlook) leads(w ways, goal []Group) []Group {
	s := o.seek(w, goal)
	return s.found
}

func list(groups []Group) []stand {
	var l []stand
	for spot, group := range groups {
		for view, in := range group {
			if in {
				l = append(l, stand{spot: spot, view: View(view)})
			}
		}
	}
	return l
}

// only leaves of the groups one stand alone.
func only(groups []Group, at stand) []Group {
	l := make([]Group, len(groups))
	if at.in(groups) {
		l[at.spot][at.view] = true
	}
	return l
}

func both(groups []Group, with Group) []Group {
	l := make([]Group, len(groups))
	for spot, group := range groups {
		for view, in := range group {
			l[spot][view] = in && with[view]
		}
	}
	return l
}

func same(one []Group, other []Group) bool {
	if len(one) != len(other) {
		return false
	}
	for spot, group := range one {
		if group != other[spot] {
			return false
		}
	}
	return true
}
