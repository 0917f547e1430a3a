package outlook

import "verdict/formula"

// stand is a spot with a view there.
type stand struct {
	spot int
	view View
}

// settled has the views in which a node is not put off. F and U are put off where they hold and their end does not, G and R where they do not hold and their end does; the other way round, the laws leave no such view.
func settled(node formula.Node, k int) Group {
	calm := Group{}
	end := node.End()
	for view := range calm {
		holds := formula.Has(view, k)
		ends := formula.Has(view, end)
		calm[view] = holds == ends
	}
	return calm
}

// lasting has for each spot the views from which a word can take the ways for ever as the laws say, with nothing put off for ever.
func (o *Outlook) lasting(w ways) []Group {
	left := make([]Group, len(w.into))
	for spot := range left {
		for view := range left[spot] {
			left[spot][view] = true
		}
	}
	// It ends, since each round but the last drops a view of a spot.
	for {
		fewer := o.drop(w, left)
		if same(fewer, left) {
			return left
		}
		left = fewer
	}
}

// drop leaves the views from which one comes to a place where a node is not put off, for each node that can be. A view that stays in every round can do so again and again.
func (o *Outlook) drop(w ways, groups []Group) []Group {
	// A formula in which nothing can be put off must have a next place all the same.
	left := o.leads(w, groups)
	for _, calm := range o.calm {
		goal := both(left, calm)
		left = o.leads(w, goal)
	}
	return left
}

// leads has for each spot the views from which one way or more lead to the goal. On the way to a goal among the views that are left lie only such views: whatever leads to one of them has been found with it.
func (o *Outlook) leads(w ways, goal []Group) []Group {
	found := make([]Group, len(w.into))
	reached := list(goal)
	// It ends, since no view is found twice at a spot.
	for i := 0; i < len(reached); i++ {
		at := reached[i]
		if at.spot >= len(w.into) {
			continue
		}
		for _, s := range w.into[at.spot] {
			earlier := o.before[s.letter][at.view]
			if !found[s.from][earlier] {
				found[s.from][earlier] = true
				reached = append(reached, stand{spot: s.from, view: earlier})
			}
		}
	}
	return found
}

func list(groups []Group) []stand {
	var l []stand
	for spot, group := range groups {
		for view, in := range group {
			if in {
				l = append(l, stand{spot: spot, view: View(view)})
			}
		}
	}
	return l
}

func both(groups []Group, with Group) []Group {
	l := make([]Group, len(groups))
	for spot, group := range groups {
		for view, in := range group {
			l[spot][view] = in && with[view]
		}
	}
	return l
}

func same(one []Group, other []Group) bool {
	if len(one) != len(other) {
		return false
	}
	for spot, group := range one {
		if group != other[spot] {
			return false
		}
	}
	return true
}
