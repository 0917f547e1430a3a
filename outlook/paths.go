package outlook

import "verdict/graph"

// Path looks for a path through a graph of whose endless word the formula does not hold. It tells the nodes of its stem and of its loop, and whether there is one.
func (o *Outlook) Path(nodes []graph.Node) ([]int, []int, bool) {
	w := along(nodes)
	lasting := o.lasting(w)
	wrong := o.wrong(nodes, lasting)
	starts := list(wrong)
	if len(starts) == 0 {
		return nil, nil, false
	}
	turn := o.turn(w, lasting, starts[0])
	goal := only(lasting, turn)
	home := o.seek(w, goal)
	first := home.nearest(wrong)
	t := home.walk(first)
	stem := spots(t.passed)
	round := o.round(w, home, turn)
	loop := spots(round)
	return stem, loop, true
}

// along has the ways along the edges: the letter of a node is read when one leaves it.
func along(nodes []graph.Node) ways {
	w := ways{into: make([][]step, len(nodes))}
	for from, node := range nodes {
		for to, leads := range node.Edge {
			if leads {
				w.add(from, node.Letter, to)
			}
		}
	}
	return w
}

// wrong has the views with which a path begins of whose endless word the formula does not hold.
func (o *Outlook) wrong(nodes []graph.Node, lasting []Group) []Group {
	l := make([]Group, len(lasting))
	for i, node := range nodes {
		if !node.Start || i >= len(lasting) {
			continue
		}
		for view, lasts := range lasting[i] {
			l[i][view] = lasts && !o.begin[view]
		}
	}
	return l
}

// turn is a stand to which one comes again from itself with nothing put off on the way. It goes round, in each round to a place where one node after the other is not put off, until it sets out from a stand a second time.
func (o *Outlook) turn(w ways, lasting []Group, from stand) stand {
	searches := o.searches(w, lasting)
	seen := make([]Group, len(lasting))
	at := from
	// It ends, since each round sets out from another stand.
	for at.spot >= 0 && at.spot < len(seen) && !seen[at.spot][at.view] {
		seen[at.spot][at.view] = true
		for _, s := range searches {
			first := s.number(at)
			t := s.walk(first)
			at = t.end
		}
	}
	return at
}

// searches has what leads to a place where a node is not put off, for each node that can be. If there is none, it has what leads to any place, so that a round is never without a step.
func (o *Outlook) searches(w ways, lasting []Group) []search {
	var l []search
	for _, calm := range o.calm {
		goal := both(lasting, calm)
		s := o.seek(w, goal)
		l = append(l, s)
	}
	if len(l) == 0 {
		s := o.seek(w, lasting)
		l = append(l, s)
	}
	return l
}

// round goes from the turn back to it, and comes to a place where a node is not put off, for each node that can be. It keeps to stands that lead home, so that each of these places can be come to from the one before. It is not too long: with the stem and the way home there are at most nine ways, each of which passes no stand twice, and nine times MaxNodes times Views is less than MaxPath.
func (o *Outlook) round(w ways, home search, turn stand) []stand {
	var passed []stand
	at := turn
	for _, calm := range o.calm {
		if calm[at.view] || meets(passed, calm) {
			continue
		}
		goal := both(home.found, calm)
		s := o.seek(w, goal)
		first := s.number(at)
		t := s.walk(first)
		passed = append(passed, t.passed...)
		at = t.end
	}
	first := home.number(at)
	t := home.walk(first)
	return append(passed, t.passed...)
}

func meets(passed []stand, group Group) bool {
	for _, at := range passed {
		if group[at.view] {
			return true
		}
	}
	return false
}

func spots(stands []stand) []int {
	var l []int
	for _, at := range stands {
		l = append(l, at.spot)
	}
	return l
}
