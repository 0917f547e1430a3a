// Package verdict tells what can be said of words without end: see DOC.md.
package verdict

import (
	"verdict/api"
	"verdict/formula"
	"verdict/graph"
	"verdict/machine"
	"verdict/outlook"
	"verdict/word"
)

// Size tells the size of a formula (P3).
func Size(f string) (int, api.Errno) {
	nodes, e := formula.Parse(f)
	return len(nodes), e
}

// Holds tells whether a formula holds of a stem and a loop (P4).
func Holds(f string, stem []int, loop []int) (bool, api.Errno) {
	nodes, e := formula.Parse(f)
	if e != api.OK {
		return false, e
	}
	w, e := word.Join(stem, loop)
	if e != api.OK {
		return false, e
	}
	return w.Holds(nodes), api.OK
}

// Judge tells the verdict on a word (P5).
func Judge(f string, u []int) (int, api.Errno) {
	nodes, e := formula.Parse(f)
	if e != api.OK {
		return 0, e
	}
	if len(u) > api.MaxWord {
		return 0, api.ErrWord
	}
	if !word.AllLetters(u) {
		return 0, api.ErrLetter
	}
	o := outlook.Look(nodes)
	return o.Judge(u), api.OK
}

// Watch makes the machine of a formula (P6).
func Watch(f string) (api.Machine, api.Errno) {
	nodes, e := formula.Parse(f)
	if e != api.OK {
		return api.Machine{}, e
	}
	o := outlook.Look(nodes)
	all := o.States()
	states, ok := machine.Smallest(all)
	if !ok {
		return api.Machine{}, api.ErrBig
	}
	return machine.Plain(states), api.OK
}

// Write writes a machine as bytes (P7).
func Write(m api.Machine) (string, api.Errno) {
	states, ok := machine.Take(m)
	if !ok {
		return "", api.ErrMachine
	}
	return machine.Bytes(states), api.OK
}

// Read reads a machine (P7).
func Read(s string) (api.Machine, api.Errno) {
	states, ok := machine.FromBytes(s)
	if !ok {
		return api.Machine{}, api.ErrText
	}
	return machine.Plain(states), api.OK
}

// Run tells what a machine tells (P7).
func Run(s string, u []int) (int, api.Errno) {
	states, ok := machine.FromBytes(s)
	if !ok {
		return 0, api.ErrText
	}
	if !word.AllLetters(u) {
		return 0, api.ErrLetter
	}
	return machine.Run(states, u), api.OK
}

// Class tells of what kind a formula is (P8).
func Class(f string) (api.Class, api.Errno) {
	nodes, e := formula.Parse(f)
	if e != api.OK {
		return api.Class{}, e
	}
	o := outlook.Look(nodes)
	return o.Class(), api.OK
}

// Check looks for a path on which a formula does not hold (P9).
func Check(g api.Graph, f string) (bool, []int, []int, api.Errno) {
	plan, ok := graph.Take(g)
	if !ok {
		return false, nil, nil, api.ErrGraph
	}
	nodes, e := formula.Parse(f)
	if e != api.OK {
		return false, nil, nil, e
	}
	o := outlook.Look(nodes)
	stem, loop, found := o.Path(plan)
	return !found, stem, loop, api.OK
}
