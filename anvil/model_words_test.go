package anvil

import (
	"math/big"
	"strings"

	"anvil/api"
)

// read tells the name, the body and the place of the semicolon of a
// definition; at is the place of the name.
func (m *model) read(tokens []string, at int) (string, *modelWord, int, api.Errno) {
	if at == len(tokens) {
		return "", nil, 0, api.ErrForm
	}
	name := tokens[at]
	_, plain := modelTakes[name]
	if plain || strings.Contains(modelBound, " "+name+" ") || strings.Trim(name, "abcdefghijklmnopqrstuvwxyz") != "" || len(name) > 8 {
		return "", nil, 0, api.ErrForm
	}
	if m.words[name] == nil && len(m.words) == api.MaxWords {
		return "", nil, 0, api.ErrFull
	}
	shape := modelShape{known: m.words, partner: map[int]int{}}
	first := at + 1
	for at = first; at < len(tokens); at++ {
		if tokens[at] == ";" && len(shape.open) == 0 && !shape.braces {
			return name, &modelWord{name, tokens[first:at], shape.partner}, at, api.OK
		}
		if why := shape.add(at-first, tokens[at]); why != api.OK {
			return "", nil, 0, why
		}
	}
	return "", nil, 0, api.ErrForm
}

// modelShape is what is open at a place of a body: the last token of each, and
// where each one began.
type modelShape struct {
	known   map[string]*modelWord
	open    []string
	begun   []int
	inDo    int
	braces  bool
	brace   int
	partner map[int]int
}

func (s *modelShape) add(at int, token string) api.Errno {
	_, plain := modelTakes[token]
	switch {
	case s.braces && token == "{":
		return api.ErrForm
	case s.braces && token == "}":
		s.braces = false
		s.partner[s.brace] = at
	case s.braces:
	case token == "{":
		s.braces, s.brace = true, at
	case token == "recurse" || token == "exit" || plain || modelNumber(token):
	case token == "i":
		if s.inDo == 0 {
			return api.ErrForm
		}
	case token == ":" || strings.Contains(modelBound, " "+token+" "):
		return s.structure(at, token)
	case s.known[token] == nil:
		return api.ErrWord
	}
	return api.OK
}

// structure takes a token of if, begin and do: opener, then what may be open
// there, and what is open behind it.
func (s *modelShape) structure(at int, token string) api.Errno {
	switch token {
	case "if", "begin", "do":
		s.open, s.begun = append(s.open, token), append(s.begun, at)
		if token == "do" {
			s.inDo++
		}
		return api.OK
	}
	needs := map[string]string{"else": "if", "then": "if else", "until": "begin", "while": "begin", "repeat": "while", "loop": "do"}[token]
	last := len(s.open) - 1
	if last < 0 || needs == "" || !strings.Contains(" "+needs+" ", " "+s.open[last]+" ") {
		return api.ErrForm
	}
	begun := s.begun[last]
	switch token {
	case "else", "then":
		s.partner[begun] = at
		s.begun[last] = at
	case "while":
		// From repeat on to the begin; from the while behind the repeat.
		s.partner[at] = begun
		s.begun[last] = at
	case "repeat":
		s.partner[at], s.partner[begun] = s.partner[begun], at
	case "until":
		s.partner[at] = begun
	case "loop":
		s.partner[at], s.partner[begun] = begun, at
		s.inDo--
	}
	s.open[last] = token
	if token != "else" && token != "while" {
		s.open, s.begun = s.open[:last], s.begun[:last]
	}
	return api.OK
}

func (m *model) deeper(run func() api.Errno) api.Errno {
	if m.depth == api.MaxDepth {
		return api.ErrDeep
	}
	m.depth++
	defer func() { m.depth-- }()
	return run()
}

// modelDo is a do that is not over.
type modelDo struct{ next, end *big.Int }

func (m *model) run(word *modelWord) api.Errno {
	var dos []modelDo
	for at := 0; at < len(word.tokens); at++ {
		token := word.tokens[at]
		partner := word.partner[at]
		why := api.OK
		switch token {
		case "then", "begin":
		case "else", "repeat":
			at = partner
		case "if", "until", "while":
			at, why = m.branch(at, partner)
		case "do":
			dos, why = m.do(dos)
			at = partner - 1 // the loop tells whether there is a round
		case "loop":
			last := &dos[len(dos)-1]
			if last.next.Cmp(last.end) == 0 {
				dos = dos[:len(dos)-1]
				break
			}
			last.next = new(big.Int).Add(last.next, big.NewInt(1))
			at, why = partner, m.step()
		case "i":
			why = m.index(dos)
		case "exit":
			return m.step()
		case "recurse":
			if why = m.step(); why == api.OK {
				why = m.deeper(func() api.Errno { return m.enter(word) })
			}
		case "{":
			if why = m.step(); why == api.OK {
				why = m.deeper(func() api.Errno { return m.tokens(word.tokens[at+1 : partner]) })
			}
			at = partner
		default:
			why = m.token(token)
		}
		if why != api.OK {
			return why
		}
	}
	return api.OK
}

// branch stays, or goes to the partner if it takes a 0.
func (m *model) branch(at, partner int) (int, api.Errno) {
	if why := m.step(); why != api.OK {
		return at, why
	}
	taken, why := m.take(1)
	if why == api.OK && taken[0].Sign() == 0 {
		return partner, why
	}
	return at, why
}

func (m *model) do(dos []modelDo) ([]modelDo, api.Errno) {
	if why := m.step(); why != api.OK {
		return dos, why
	}
	taken, why := m.take(2)
	if why != api.OK {
		return dos, why
	}
	if taken[0].Cmp(taken[1]) < 0 {
		taken[0] = taken[1]
	}
	return append(dos, modelDo{taken[1], taken[0]}), api.OK
}

// index leaves the number of the round, one less than that of the next one.
func (m *model) index(dos []modelDo) api.Errno {
	if why := m.step(); why != api.OK {
		return why
	}
	return m.put(new(big.Int).Sub(dos[len(dos)-1].next, big.NewInt(1)))
}
