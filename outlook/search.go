package outlook

// link is a stand, and the number of the link to which one goes from there.
type link struct {
	at     stand
	toward int
}

// trip has the stands that are left behind on the way to a goal, and the one of the goal to which they lead.
type trip struct {
	passed []stand
	end    stand
}

// search has what leads to a goal.
type search struct {
	// found has for each spot the views from which one way or more lead to the goal.
	found []Group
	// links has the stands of the goal, and behind them those that were found, the nearest first. A stand of the goal that leads there again stands among both.
	links []link
	// goals is how many links are the goal's own.
	goals int
}

// seek looks for what leads to a goal. On the way to a goal among the views that are left lie only such views: whatever leads to one of them has been found with it.
func (o *Outlook) seek(w ways, goal []Group) search {
	s := search{found: make([]Group, len(w.into))}
	for i, at := range list(goal) {
		s.links = append(s.links, link{at: at, toward: i})
	}
	s.goals = len(s.links)
	// It ends, since no view is found twice at a spot.
	for i := 0; i < len(s.links); i++ {
		at := s.links[i].at
		if at.spot >= len(w.into) {
			continue
		}
		for _, way := range w.into[at.spot] {
			earlier := o.before[way.letter][at.view]
			if !s.found[way.from][earlier] {
				s.found[way.from][earlier] = true
				s.links = append(s.links, link{at: stand{spot: way.from, view: earlier}, toward: i})
			}
		}
	}
	return s
}

// number is the number of the link of a stand that was found, or -1.
func (s *search) number(at stand) int {
	for i, l := range s.links {
		if i >= s.goals && l.at == at {
			return i
		}
	}
	return -1
}

// nearest is the number of the first link whose stand is in the groups, or -1.
func (s *search) nearest(groups []Group) int {
	for i, l := range s.links {
		if l.at.in(groups) {
			return i
		}
	}
	return -1
}

// walk goes from a link to the goal.
func (s *search) walk(from int) trip {
	t := trip{}
	i := from
	// It ends, since each link leads to one with a smaller number.
	for i >= s.goals && i < len(s.links) {
		t.passed = append(t.passed, s.links[i].at)
		i = s.links[i].toward
	}
	if i >= 0 && i < len(s.links) {
		t.end = s.links[i].at
	}
	return t
}
