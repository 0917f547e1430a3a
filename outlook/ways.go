package outlook

import "verdict/api"

// step is a way to a spot: from which spot, and the letter that is read on it.
type step struct {
	from   int
	letter int
}

// ways has the ways that an endless word may take, from spot to spot. They are kept by the spot to which they lead, since the view before is told from the next one, and not the other way round.
type ways struct {
	into [][]step
}

// anyWay lets a word take every letter, always: it never leaves its one spot.
func anyWay() ways {
	w := ways{into: make([][]step, 1)}
	for letter := 0; letter < api.Letters; letter++ {
		w.add(0, letter, 0)
	}
	return w
}

// add lays a way with a letter from a spot to another. What is no spot or no letter is left out, so that whatever is kept can be looked up.
func (w *ways) add(from int, letter int, to int) {
	spots := len(w.into)
	if from < 0 || from >= spots || to < 0 || to >= spots {
		return
	}
	if letter < 0 || letter >= api.Letters {
		return
	}
	w.into[to] = append(w.into[to], step{from: from, letter: letter})
}
