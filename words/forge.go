package words

import (
	"anvil/api"
	"anvil/body"
	"anvil/machine"
)

// smith makes acts of one body.
type smith struct {
	book *Book
	own  *word // whose body it is
	left int   // how many times over the words that it calls are built in

	// Of the whole word that becomes fast; a smith of slow acts has none.
	made  map[site]act
	parts map[string]*word
}

// forge makes a word of the items of its body. Nothing is built in yet.
func (b *Book) forge(name string, items []body.Item) *word {
	own := &word{name: name, items: items, wholes: map[string]*word{}}
	own.slow = smith{book: b, own: own}.acts(items)
	own.acts = own.slow
	return own
}

func (s smith) acts(items []body.Item) []act {
	var acts []act
	for _, item := range items {
		acts = append(acts, s.act(item))
	}
	return acts
}

func (s smith) act(item body.Item) act {
	switch item.Kind {
	case body.Number:
		return step(machine.Lay(item.Number))
	case body.Plain:
		return step(machine.Plain(item.Plain))
	case body.Call:
		return s.call(item.Name)
	case body.If:
		return choose(s.acts(item.First), s.acts(item.Second))
	case body.Until:
		return repeatUntil(s.acts(item.First))
	case body.While:
		return repeatWhile(s.acts(item.First), s.acts(item.Second))
	case body.Do:
		return count(s.acts(item.First))
	case body.Index:
		return layIndex
	case body.Recurse:
		return step(s.book.recurse(s.own))
	case body.Braces:
		return step(s.book.braces(item.Tokens))
	}
	return exit
}

// step makes the act of an item that is one step.
func step(action machine.Action) act {
	return func(f *frame) signal {
		return f.heed(f.run.Step(action))
	}
}

func choose(first, second []act) act {
	return func(f *frame) signal {
		so, said := f.ask()
		switch {
		case said == leave:
			return leave
		case so:
			return f.runAll(first)
		}
		return f.runAll(second)
	}
}

func repeatUntil(acts []act) act {
	return func(f *frame) signal {
		for {
			if f.runAll(acts) == leave {
				return leave
			}
			if so, said := f.ask(); so || said == leave {
				return said
			}
		}
	}
}

func repeatWhile(first, second []act) act {
	return func(f *frame) signal {
		for {
			if f.runAll(first) == leave {
				return leave
			}
			if so, said := f.ask(); !so || said == leave {
				return said
			}
			if f.runAll(second) == leave {
				return leave
			}
		}
	}
}

func count(acts []act) act {
	return func(f *frame) signal {
		end, from, why := f.run.Bounds()
		said := f.heed(why)
		for number := from; said == goOn && number < end; number++ {
			said = f.round(number, acts)
		}
		return said
	}
}

// round runs the body of a do once, for one number.
func (f *frame) round(number int64, acts []act) signal {
	if f.heed(f.run.Step(machine.Nothing)) == leave {
		return leave
	}
	outer := f.indexes
	f.indexes = append(outer, number)
	said := f.runAll(acts)
	f.indexes = outer
	return said
}

func layIndex(f *frame) signal {
	innermost := f.indexes[len(f.indexes)-1]
	return f.heed(f.run.Step(machine.Lay(innermost)))
}

func exit(f *frame) signal {
	f.heed(f.run.Step(machine.Nothing))
	return leave
}

// braces makes the action that runs tokens as those of a line are.
func (b *Book) braces(tokens []string) machine.Action {
	return machine.Deeper(func(run *machine.Run) api.Errno {
		return b.Run(run, tokens)
	})
}
