// Package machine holds what words work on, and what the plain words do to it.
package machine

import "anvil/api"

// State is what a session keeps from line to line. Its zero value has an
// empty stack, and 0 in all cells.
type State struct {
	stack []int64
	cells [api.Cells]int64
}

// Run is the run of one line: what it printed and how many steps it made are
// counted from its start on.
type Run struct {
	state *State
	out   []byte
	steps int
	depth int
}

// Action is what one step does.
type Action func(r *Run) api.Errno

// Start begins the run of a line.
func (s *State) Start() *Run {
	return &Run{state: s}
}

// Empty takes all numbers off the stack.
func (s *State) Empty() {
	s.stack = nil
}

// Stack tells the numbers on the stack, the last one on top.
func (s *State) Stack() []int {
	numbers := make([]int, len(s.stack))
	for at, number := range s.stack {
		numbers[at] = int(number)
	}
	return numbers
}

// Cell tells what is in a cell.
func (s *State) Cell(n int) (int, api.Errno) {
	if !isCell(int64(n)) {
		return 0, api.ErrCell
	}
	return int(s.cells[n]), api.OK
}

// Printed tells what the line has printed so far.
func (r *Run) Printed() string {
	return string(r.out)
}

// Step makes one step, if there is fuel for it.
func (r *Run) Step(act Action) api.Errno {
	if why := r.burn(); why != api.OK {
		return why
	}
	return act(r)
}

// burn counts one step. It stands ahead of what the step does, since fuel goes
// ahead of every other error that the step would be.
func (r *Run) burn() api.Errno {
	if r.steps >= api.MaxFuel {
		return api.ErrFuel
	}
	r.steps++
	return api.OK
}

// Lay makes the action that lays a number on the stack.
func Lay(number int64) Action {
	return func(r *Run) api.Errno {
		return r.put(number)
	}
}

// Nothing is the action of a step that does nothing by itself.
func Nothing(*Run) api.Errno {
	return api.OK
}

// Deeper makes the action that does another one level deeper.
func Deeper(act Action) Action {
	return func(r *Run) api.Errno {
		if why := r.Down(); why != api.OK {
			return why
		}
		why := act(r)
		r.Up()
		return why
	}
}

// Down goes one level deeper, if there is one.
func (r *Run) Down() api.Errno {
	if r.depth >= api.MaxDepth {
		return api.ErrDeep
	}
	r.depth++
	return api.OK
}

// Up goes back from the level that Down went to.
func (r *Run) Up() {
	r.depth--
}

// Ask makes the step that takes a number, and tells whether that is not 0.
func (r *Run) Ask() (bool, api.Errno) {
	taken, why := r.stepTaking(1)
	return taken[0] != 0, why
}

// Bounds makes the step that takes the bounds of a do: the number that is the
// first one not to be reached, and the one to begin with.
func (r *Run) Bounds() (end, begin int64, why api.Errno) {
	taken, why := r.stepTaking(2)
	return taken[0], taken[1], why
}

// stepTaking makes the step that takes count numbers.
func (r *Run) stepTaking(count int) ([maxTaken]int64, api.Errno) {
	if why := r.burn(); why != api.OK {
		return [maxTaken]int64{}, why
	}
	return r.take(count)
}

// maxTaken is the most that one step takes from the stack.
const maxTaken = 3

// take takes count numbers from the stack; the last one was on top.
func (r *Run) take(count int) ([maxTaken]int64, api.Errno) {
	var taken [maxTaken]int64
	rest := len(r.state.stack) - count
	if rest < 0 {
		return taken, api.ErrUnder
	}
	// A copy, since what is put next overwrites the place.
	copy(taken[:], r.state.stack[rest:])
	r.state.stack = r.state.stack[:rest]
	return taken, api.OK
}

// put lays numbers on the stack, the last one on top.
func (r *Run) put(numbers ...int64) api.Errno {
	if len(r.state.stack)+len(numbers) > api.MaxStack {
		return api.ErrOver
	}
	r.state.stack = append(r.state.stack, numbers...)
	return api.OK
}

// print prints a text whole, or nothing of it.
func (r *Run) print(text []byte) api.Errno {
	if len(r.out)+len(text) > api.MaxOut {
		return api.ErrOut
	}
	r.out = append(r.out, text...)
	return api.OK
}
