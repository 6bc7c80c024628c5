package words

import (
	"slices"

	"anvil/api"
)

// What holds until the first Tune.
const (
	firstHot   = 5
	firstBuilt = 1
)

// Tune sets which count makes a word fast, and how many times over words are
// built into it then; all words begin anew.
func (b *Book) Tune(hot, built int) api.Errno {
	if hot < 1 || hot > api.MaxHot || built < 0 || built > api.MaxBuilt {
		return api.ErrArg
	}
	b.hot, b.built = hot, built
	for _, w := range b.words {
		w.cool()
	}
	return api.OK
}

// Fast tells the names of the fast words, in the order of their bytes.
func (b *Book) Fast() []string {
	var names []string
	for name, w := range b.words {
		if w.fast {
			names = append(names, name)
		}
	}
	slices.Sort(names)
	return names
}

// noteEntry counts an entry of a word, and makes it fast if it is hot. What is
// gone has no count: its body is not the one that the word has now.
func (b *Book) noteEntry(w *word) {
	if w.fast || w.gone {
		return
	}
	w.count++
	if w.count >= b.hot {
		b.heat(w)
	}
}

// heat makes a word fast.
func (b *Book) heat(w *word) {
	w.fast = true
	w.acts, w.parts = b.build(w, b.built)
	for _, part := range w.parts {
		part.wholes[w.name] = w
	}
}

// cool makes a word slow, its count 0.
func (w *word) cool() {
	for _, part := range w.parts {
		delete(part.wholes, w.name)
	}
	w.fast, w.count = false, 0
	w.acts, w.parts = w.slow, nil
}

// retire is for a word whose name is defined again: what it is built into is
// slow again, for the words in there are no longer the same ones.
func (w *word) retire() {
	w.gone = true
	wholes := w.wholes
	// Cooling takes words out of the map, so it is not the one gone through.
	w.wholes = nil
	for _, whole := range wholes {
		whole.cool()
	}
	w.cool()
}
