package outlook

import (
	"verdict/api"
	"verdict/machine"
)

// Class tells whether the formula is safe, cosafe, live.
func (o *Outlook) Class() api.Class {
	states := o.States()
	broken := o.evades(states, api.False, false)
	kept := o.evades(states, api.True, true)
	found := tells(states, api.False)
	return api.Class{Safe: !broken, Cosafe: !kept, Live: !found}
}

// evades tells whether the formula holds, or does not hold, of some endless word on no beginning of which the states tell the verdict.
func (o *Outlook) evades(states []machine.State, verdict int, holds bool) bool {
	w := without(states, verdict)
	lasting := o.lasting(w)
	if len(lasting) == 0 {
		return false
	}
	for view, lasts := range lasting[0] {
		if lasts && o.begin[view] == holds {
			return true
		}
	}
	return false
}

// without has the ways from state to state on which the verdict is not told. No way leads back out of a state that tells one, so it is enough to leave out those that lead there.
func without(states []machine.State, verdict int) ways {
	w := ways{into: make([][]step, len(states))}
	for i, state := range states {
		for letter, to := range state.Next {
			if to < 0 || to >= len(states) {
				continue
			}
			if states[to].Out != verdict {
				w.add(i, letter, to)
			}
		}
	}
	return w
}

func tells(states []machine.State, verdict int) bool {
	for _, state := range states {
		if state.Out == verdict {
			return true
		}
	}
	return false
}
