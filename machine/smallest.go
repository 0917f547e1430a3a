package machine

import "verdict/api"

// sorting puts states that tell the same so far into one kind.
type sorting struct {
	// kinds has for each state the number of its kind.
	kinds []int
	// shapes has for each kind what its states tell, and to which kinds they go.
	shapes []State
}

// Smallest is the machine with the fewest states that tells what the given one does, if it has at most MaxStates. The given states must stand in the order in which they are met first from state 0 on: a kind gets its number where its first state stands, and so the kinds stand in that order too.
func Smallest(states []State) ([]State, bool) {
	// At first all states are of one kind. Each round tells apart what one more letter tells apart, and the first one that adds no kind is the end.
	s := sorting{kinds: make([]int, len(states)), shapes: make([]State, 1)}
	for len(s.shapes) <= api.MaxStates {
		finer := s.refine(states)
		if len(finer.shapes) == len(s.shapes) {
			return finer.shapes, true
		}
		s = finer
	}
	return nil, false
}

func (s sorting) refine(states []State) sorting {
	finer := sorting{}
	for _, state := range states {
		shape := State{Out: state.Out}
		for letter, to := range state.Next {
			if to >= 0 && to < len(s.kinds) {
				shape.Next[letter] = s.kinds[to]
			}
		}
		finer.add(shape)
	}
	return finer
}

func (s *sorting) add(shape State) {
	kind := s.find(shape)
	if kind == len(s.shapes) {
		s.shapes = append(s.shapes, shape)
	}
	s.kinds = append(s.kinds, kind)
}

// find answers the number that comes next, if the shape is new.
func (s *sorting) find(shape State) int {
	for kind, known := range s.shapes {
		if known == shape {
			return kind
		}
	}
	return len(s.shapes)
}
