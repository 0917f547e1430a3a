package outlook

import (
	"verdict/api"
	"verdict/machine"
)

// explorer numbers the groups in the order in which they are met.
type explorer struct {
	groups []Group
}

// States is a machine that tells the verdicts, with a state for each group that some word leads to. States of it that tell the same for ever are not yet one.
func (o *Outlook) States() []machine.State {
	begin := o.Begin()
	x := explorer{groups: []Group{begin}}
	// It ends, since there are not endlessly many groups; no formula of MaxSize comes to more than 28.
	var states []machine.State
	for i := 0; i < len(x.groups); i++ {
		group := x.groups[i]
		state := machine.State{Out: o.Verdict(group)}
		for letter := 0; letter < api.Letters; letter++ {
			to := o.Step(group, letter)
			state.Next[letter] = x.number(to)
		}
		states = append(states, state)
	}
	return states
}

func (x *explorer) number(group Group) int {
	for i, known := range x.groups {
		if known == group {
			return i
		}
	}
	x.groups = append(x.groups, group)
	return len(x.groups) - 1
}
