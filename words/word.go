package words

import (
	"anvil/api"
	"anvil/body"
	"anvil/machine"
)

// signal is what an item says to the ones behind it.
type signal int

const (
	goOn signal = iota
	leave
)

// act runs one item.
type act func(f *frame) signal

// word is one definition of a word, made into acts.
type word struct {
	name  string
	items []body.Item
	slow  []act // the acts without anything built in
	acts  []act // the acts that are run: the slow ones, or those made when it became fast
	fast  bool
	count int
	gone  bool // if its name has been defined again

	// Both by name. A word that is gone is in neither map of any word.
	parts  map[string]*word // what is built into it, while it is fast
	wholes map[string]*word // the fast words into which it is built
}

// frame is one run of a word, and of the words built into it: each i stands in
// a do of its own body, so that the innermost number is always the right one.
type frame struct {
	run     *machine.Run
	indexes []int64   // the numbers of the dos that are not over, the innermost last
	why     api.Errno // if the word is left by an error, and not by exit
}

func (w *word) run(run *machine.Run) api.Errno {
	f := &frame{run: run}
	f.runAll(w.acts)
	return f.why
}

// runAll runs acts in their order, up to one that leaves the word.
func (f *frame) runAll(acts []act) signal {
	for _, each := range acts {
		if each(f) == leave {
			return leave
		}
	}
	return goOn
}

// heed leaves the word at an error.
func (f *frame) heed(why api.Errno) signal {
	f.why = why
	if why != api.OK {
		return leave
	}
	return goOn
}

// ask takes a number and tells whether it is not 0.
func (f *frame) ask() (bool, signal) {
	so, why := f.run.Ask()
	return so, f.heed(why)
}
