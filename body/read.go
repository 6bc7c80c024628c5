package body

import (
	"anvil/api"
	"anvil/token"
)

// reader goes through tokens once, so that the first wrong one is told.
type reader struct {
	rest    []string
	defined func(name string) bool
	dos     int // how many dos the next token stands in
}

// Read reads a body and the semicolon that ends it; it gives the tokens
// behind that, too.
func Read(tokens []string, defined func(name string) bool) ([]Item, []string, api.Errno) {
	r := reader{rest: tokens, defined: defined}
	items, why := r.bodyUpTo(token.Semicolon)
	if why != api.OK {
		return nil, nil, why
	}
	return items, r.rest, api.OK
}

// bodyUpTo reads a body that only a token of this kind may end.
func (r *reader) bodyUpTo(wanted token.Kind) ([]Item, api.Errno) {
	items, end, why := r.body()
	if why == api.OK && end != wanted {
		why = api.ErrForm
	}
	return items, why
}

// body reads items up to a token that ends a body; it tells the kind of that.
func (r *reader) body() ([]Item, token.Kind, api.Errno) {
	var items []Item
	for len(r.rest) > 0 {
		text := r.next()
		kind := token.KindOf(text)
		if endsBody(kind) {
			return items, kind, api.OK
		}
		item, why := r.item(text, kind)
		if why != api.OK {
			return nil, token.Other, why
		}
		items = append(items, item)
	}
	return nil, token.Other, api.ErrForm
}

func (r *reader) next() string {
	text := r.rest[0]
	r.rest = r.rest[1:]
	return text
}

func endsBody(kind token.Kind) bool {
	switch kind {
	case token.Semicolon, token.Else, token.Then, token.Until, token.While, token.Repeat, token.Loop:
		return true
	}
	return false
}

// item reads the rest of the item that this token begins.
func (r *reader) item(text string, kind token.Kind) (Item, api.Errno) {
	switch {
	case kind == token.Number:
		return Item{Kind: Number, Number: token.Value(text)}, api.OK
	case kind.Plain():
		return Item{Kind: Plain, Plain: kind}, api.OK
	case kind == token.Other && r.defined(text):
		return Item{Kind: Call, Name: text}, api.OK
	case kind == token.Other:
		return Item{}, api.ErrWord
	}
	return r.boundItem(kind)
}

// boundItem reads the rest of an item that a word begins which can be no name.
func (r *reader) boundItem(kind token.Kind) (Item, api.Errno) {
	switch kind {
	case token.If:
		return r.ifItem()
	case token.Begin:
		return r.beginItem()
	case token.Do:
		return r.doItem()
	case token.Open:
		return r.bracesItem()
	case token.Recurse:
		return Item{Kind: Recurse}, api.OK
	case token.Exit:
		return Item{Kind: Exit}, api.OK
	case token.Index:
		if r.dos > 0 {
			return Item{Kind: Index}, api.OK
		}
	}
	return Item{}, api.ErrForm
}

func (r *reader) ifItem() (Item, api.Errno) {
	first, end, why := r.body()
	var second []Item
	if why == api.OK && end == token.Else {
		second, end, why = r.body()
	}
	if why == api.OK && end != token.Then {
		why = api.ErrForm
	}
	return Item{Kind: If, First: first, Second: second}, why
}

func (r *reader) beginItem() (Item, api.Errno) {
	first, end, why := r.body()
	if why != api.OK {
		return Item{}, why
	}
	switch end {
	case token.Until:
		return Item{Kind: Until, First: first}, api.OK
	case token.While:
		second, why := r.bodyUpTo(token.Repeat)
		return Item{Kind: While, First: first, Second: second}, why
	}
	return Item{}, api.ErrForm
}

func (r *reader) doItem() (Item, api.Errno) {
	r.dos++
	first, why := r.bodyUpTo(token.Loop)
	r.dos--
	return Item{Kind: Do, First: first}, why
}

// bracesItem keeps its tokens as they are: they are read when they are run.
func (r *reader) bracesItem() (Item, api.Errno) {
	var tokens []string
	for len(r.rest) > 0 {
		text := r.next()
		switch token.KindOf(text) {
		case token.Close:
			return Item{Kind: Braces, Tokens: tokens}, api.OK
		case token.Open:
			return Item{}, api.ErrForm
		}
		tokens = append(tokens, text)
	}
	return Item{}, api.ErrForm
}
