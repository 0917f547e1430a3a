// Package machine has the machines that tell verdicts: when they are well formed, how they run, how they are written as bytes, and how they are made small.
package machine

import "verdict/api"

// State is what a machine tells in a state, and where each letter leads. A list of states is a machine that begins in the first one.
type State struct {
	Out  int
	Next [api.Letters]int
}

// Take makes states of a plain machine, and tells whether it is well formed.
func Take(m api.Machine) ([]State, bool) {
	count := len(m.Out)
	// The number is looked at here too, so that a list of any length is refused at once.
	if count > api.MaxStates || len(m.Next) != count {
		return nil, false
	}
	var states []State
	for i, list := range m.Next {
		if len(list) != api.Letters {
			return nil, false
		}
		state := State{Out: m.Out[i]}
		for letter, to := range list {
			state.Next[letter] = to
		}
		states = append(states, state)
	}
	if !wellFormed(states) {
		return nil, false
	}
	return states, true
}

// Plain makes a plain machine of states: every list in it has room of its own.
func Plain(states []State) api.Machine {
	m := api.Machine{}
	for _, state := range states {
		var next []int
		for _, to := range state.Next {
			next = append(next, to)
		}
		m.Out = append(m.Out, state.Out)
		m.Next = append(m.Next, next)
	}
	return m
}

func wellFormed(states []State) bool {
	if len(states) < 1 || len(states) > api.MaxStates {
		return false
	}
	for i, state := range states {
		if !state.fits(i, len(states)) {
			return false
		}
	}
	return true
}

// fits tells whether a state may be the one with the number self among so many.
func (s State) fits(self int, count int) bool {
	final := s.Out == api.True || s.Out == api.False
	if !final && s.Out != api.Unknown {
		return false
	}
	for _, to := range s.Next {
		if to < 0 || to >= count {
			return false
		}
		if final && to != self {
			return false
		}
	}
	return true
}

// Run tells the Out of the state in which a machine is when it has read a word. A letter or a state that is none ends it with nothing told.
func Run(states []State, u []int) int {
	at := 0
	for _, letter := range u {
		if at < 0 || at >= len(states) || letter < 0 || letter >= api.Letters {
			return api.Unknown
		}
		at = states[at].Next[letter]
	}
	if at < 0 || at >= len(states) {
		return api.Unknown
	}
	return states[at].Out
}
