// Package machine holds what words work on, and what the plain words do to it.
package machine

import "anvil/api"

// State is what a session keeps from line to line. Its zero value has an
// empty stack, and 0 in all cells.
type State struct {
	stack []int64
	cells [api.Cells]int64
}

// Run is the run of one line: what it printed and how many steps it made are
// counted from its start on.
type Run struct {
	state *State
	out   []byte
	steps int
}

// Action is what one step does.
type Action func(r *Run) api.Errno

// Start begins the run of a line.
func (s *State) Start() *Run {
	return &Run{state: s}
}

// Empty takes all numbers off the stack.
func (s *State) Empty() {
	s.stack = nil
}

// Printed tells what the line has printed so far.
func (r *Run) Printed() string {
	return string(r.out)
}

// Step makes one step, if there is fuel for it.
func (r *Run) Step(act Action) api.Errno {
	// Fuel goes ahead of every other error that the step would be.
	if r.steps >= api.MaxFuel {
		return api.ErrFuel
	}
	r.steps++
	return act(r)
}

// Lay makes the action that lays a number on the stack.
func Lay(number int64) Action {
	return func(r *Run) api.Errno {
		return r.put(number)
	}
}

// maxTaken is the most that one plain word takes from the stack.
const maxTaken = 3

// take takes count numbers from the stack; the last one was on top.
func (r *Run) take(count int) ([maxTaken]int64, api.Errno) {
	var taken [maxTaken]int64
	rest := len(r.state.stack) - count
	if rest < 0 {
		return taken, api.ErrUnder
	}
	// A copy, since what is put next overwrites the place.
	copy(taken[:], r.state.stack[rest:])
	r.state.stack = r.state.stack[:rest]
	return taken, api.OK
}

// put lays numbers on the stack, the last one on top.
func (r *Run) put(numbers ...int64) api.Errno {
	if len(r.state.stack)+len(numbers) > api.MaxStack {
		return api.ErrOver
	}
	r.state.stack = append(r.state.stack, numbers...)
	return api.OK
}

// print prints a text whole, or nothing of it.
func (r *Run) print(text []byte) api.Errno {
	if len(r.out)+len(text) > api.MaxOut {
		return api.ErrOut
	}
	r.out = append(r.out, text...)
	return api.OK
}
