package words

import "anvil/machine"

// site is where a call stands: which word it calls, and how many times over
// words are built in there.
type site struct {
	name string
	left int
}

// build makes the acts of a word with the words that it calls built in, so
// many times over; it gives all words that are built in, too.
func (b *Book) build(w *word, times int) ([]act, map[string]*word) {
	s := smith{book: b, own: w, left: times, made: map[site]act{}, parts: map[string]*word{}}
	return s.body(), s.parts
}

func (s smith) body() []act {
	if s.left == 0 {
		return s.own.slow
	}
	return s.acts(s.own.items)
}

// call makes the act of a call.
func (s smith) call(name string) act {
	if s.left == 0 {
		return step(s.book.call(name))
	}
	// Once for all sites that are alike: calls of calls of calls would be too many.
	at := site{name, s.left}
	if s.made[at] == nil {
		s.made[at] = s.builtIn(s.book.words[name])
	}
	return s.made[at]
}

// builtIn makes the act of a call with the word that it calls built in.
func (s smith) builtIn(part *word) act {
	s.parts[part.name] = part
	inner := s
	inner.own = part
	inner.left--
	return s.book.callPart(part, inner.body())
}

// callPart makes the act of a call that runs these acts of a word at once, and
// in the frame of its caller.
func (b *Book) callPart(part *word, acts []act) act {
	called := step(b.call(part.name))
	return func(f *frame) signal {
		// The word can be defined again while its caller runs.
		if part.gone {
			return called(f)
		}
		if f.heed(f.run.Step((*machine.Run).Down)) == leave {
			return leave
		}
		b.noteEntry(part)
		f.runAll(acts)
		f.run.Up()
		// An exit left the part alone; an error leaves the caller, too.
		return f.heed(f.why)
	}
}
