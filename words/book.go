// Package words holds the words of a session, defines them and runs them.
package words

import (
	"maps"
	"slices"

	"anvil/api"
	"anvil/body"
	"anvil/machine"
	"anvil/token"
)

// Book holds the words that are defined, by their names.
type Book struct {
	words map[string]*word
	hot   int // the count that makes a word fast
	built int // how many times over words are built into it
}

// NewBook makes a book without words.
func NewBook() *Book {
	return &Book{words: map[string]*word{}, hot: firstHot, built: firstBuilt}
}

// Names tells the names of all words, in the order of their bytes.
func (b *Book) Names() []string {
	return slices.Sorted(maps.Keys(b.words))
}

func (b *Book) has(name string) bool {
	return b.words[name] != nil
}

// Run runs tokens, those of a line or those in braces, up to the first error.
func (b *Book) Run(run *machine.Run, tokens []string) api.Errno {
	why := api.OK
	for why == api.OK && len(tokens) > 0 {
		tokens, why = b.runFirst(run, tokens)
	}
	return why
}

// runFirst runs the first token, and with a colon all of its definition; it
// gives the tokens behind.
func (b *Book) runFirst(run *machine.Run, tokens []string) ([]string, api.Errno) {
	text, rest := tokens[0], tokens[1:]
	kind := token.KindOf(text)
	switch {
	case kind == token.Number:
		return rest, run.Step(machine.Lay(token.Value(text)))
	case kind.Plain():
		return rest, run.Step(machine.Plain(kind))
	case kind == token.Colon:
		return b.define(run, rest)
	case kind != token.Other:
		return nil, api.ErrForm
	case b.has(text):
		return rest, run.Step(b.call(text))
	}
	return nil, api.ErrWord
}

// define reads what stands behind a colon and defines the word; it gives the
// tokens behind the definition.
func (b *Book) define(run *machine.Run, tokens []string) ([]string, api.Errno) {
	if len(tokens) == 0 || !token.IsName(tokens[0]) {
		return nil, api.ErrForm
	}
	name := tokens[0]
	if !b.has(name) && len(b.words) >= api.MaxWords {
		return nil, api.ErrFull
	}
	items, rest, why := body.Read(tokens[1:], b.has)
	if why != api.OK {
		return nil, why
	}
	return rest, run.Step(func(*machine.Run) api.Errno {
		if old := b.words[name]; old != nil {
			old.retire()
		}
		// A new word, not the old one changed: who runs the old one goes on with it.
		b.words[name] = b.forge(name, items)
		return api.OK
	})
}

// call makes the action that runs a word as it is defined by then.
func (b *Book) call(name string) machine.Action {
	return machine.Deeper(func(run *machine.Run) api.Errno {
		return b.enter(run, b.words[name])
	})
}

// recurse makes the action that runs this word, whatever its name is defined
// as by then.
func (b *Book) recurse(own *word) machine.Action {
	return machine.Deeper(func(run *machine.Run) api.Errno {
		return b.enter(run, own)
	})
}

// enter counts the entry ahead of the run, since the word may be fast from
// this very run on.
func (b *Book) enter(run *machine.Run, w *word) api.Errno {
	b.noteEntry(w)
	return w.run(run)
}
