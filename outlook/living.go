package outlook

import "verdict/formula"

// findLiving has the views from which a word can go on for ever as the laws say, with nothing put off for ever.
func (o *Outlook) findLiving(nodes []formula.Node) Group {
	left := Group{}
	for view := range left {
		left[view] = true
	}
	// It ends, since each round but the last drops a view.
	for {
		fewer := o.drop(nodes, left)
		if fewer == left {
			return left
		}
		left = fewer
	}
}

// drop leaves of a group the views from which one comes to a place where a node is not put off, for each node that can be. A view that stays in every round can do so again and again.
func (o *Outlook) drop(nodes []formula.Node, group Group) Group {
	// A formula in which nothing can be put off must have a next place all the same.
	left := o.leads(group)
	for k, node := range nodes {
		if node.Waits() {
			goal := settled(left, node, k)
			left = o.leads(goal)
		}
	}
	return left
}

// settled has the views of a group in which a node is not put off. F and U are put off where they hold and their end does not, G and R where they do not hold and their end does; the other way round, the laws leave no such view.
func settled(group Group, node formula.Node, k int) Group {
	goal := Group{}
	end := node.End()
	for view := range group {
		holds := formula.Has(view, k)
		ends := formula.Has(view, end)
		goal[view] = group[view] && holds == ends
	}
	return goal
}

// leads has the views from which one step or more lead to the goal. On the way to a goal among the views that are left lie only such views: whatever leads to one of them has been found with it.
func (o *Outlook) leads(goal Group) Group {
	found := Group{}
	var reached []View
	for view := range goal {
		if goal[view] {
			reached = append(reached, View(view))
		}
	}
	for i := 0; i < len(reached); i++ {
		for letter := range o.before {
			earlier := o.before[letter][reached[i]]
			if !found[earlier] {
				found[earlier] = true
				reached = append(reached, earlier)
			}
		}
	}
	return found
}
