package anvil

import (
	"math/rand"
	"slices"
	"testing"

	"anvil/api"
)

// modelHeat keeps all by names: the counts, and what is built into each of the
// fast words.
type modelHeat struct {
	hot, built int
	counts     map[string]int
	fast       map[string]map[string]bool
}

func newModelHeat(hot, built int) modelHeat {
	return modelHeat{hot, built, map[string]int{}, map[string]map[string]bool{}}
}

func (m *model) tune(hot, built int) api.Errno {
	if hot <= 0 || hot > 1000 || built < 0 || built >= 4 {
		return api.ErrArg
	}
	m.modelHeat = newModelHeat(hot, built)
	return api.OK
}

func (m *model) fastNames() []string {
	var names []string
	for name := range m.fast {
		names = append(names, name)
	}
	slices.Sort(names)
	return names
}

func (m *model) enter(word *modelWord) api.Errno {
	if m.words[word.name] == word && m.fast[word.name] == nil {
		m.counts[word.name]++
		if m.counts[word.name] == m.hot {
			m.fast[word.name] = m.reached(word)
		}
	}
	return m.run(word)
}

// reached goes down from a word as many times as words are built in.
func (m *model) reached(word *modelWord) map[string]bool {
	all := map[string]bool{}
	names := m.called(word)
	for range m.built {
		below := map[string]bool{}
		for name := range names {
			all[name] = true
			for called := range m.called(m.words[name]) {
				below[called] = true
			}
		}
		names = below
	}
	return all
}

// called is the names that stand in a body, but for those in braces.
func (m *model) called(word *modelWord) map[string]bool {
	names := map[string]bool{}
	for at := 0; at < len(word.tokens); at++ {
		if word.tokens[at] == "{" {
			at = word.partner[at]
		} else if m.words[word.tokens[at]] != nil {
			names[word.tokens[at]] = true
		}
	}
	return names
}

func (m *model) defined(name string) {
	delete(m.fast, name)
	m.counts[name] = 0
	for whole, parts := range m.fast {
		if parts[name] {
			delete(m.fast, whole)
			m.counts[whole] = 0
		}
	}
}

// tunes tunes a session and the model, in most cases to what may be.
func tunes(t *testing.T, session *Session, other *model, random *rand.Rand) {
	t.Helper()
	hot, built := 1+random.Intn(6), random.Intn(api.MaxBuilt+1)
	switch random.Intn(6) {
	case 0:
		hot = []int{-1, 0, api.MaxHot, api.MaxHot + 1}[random.Intn(4)]
	case 1:
		built = []int{-1, api.MaxBuilt + 1}[random.Intn(2)]
	}
	if got, want := session.Tune(hot, built), other.tune(hot, built); got != want {
		t.Errorf("P5: Tune(%d, %d) is %d, want %d", hot, built, got, want)
	}
	if got, want := session.Fast(), other.fastNames(); !slices.Equal(got, want) {
		t.Errorf("P5: behind Tune(%d, %d) the fast words are %q, want %q", hot, built, got, want)
	}
}

func TestTunedSessionsAnswerAsTheModel(t *testing.T) {
	most := 0
	for seed, names := range [][]string{{"a", "b", "c"}, {"a", "bb", "ccc", "d", "e", "fgh"}, manyNames()[:12]} {
		w := writer{rand.New(rand.NewSource(int64(100 + seed))), names}
		for range 400 {
			session, other := New(), newModel()
			tunes(t, session, other, w.Rand)
			for _, name := range names {
				agrees(t, session, other, ": "+name+" 1 . ;")
			}
			for range 15 {
				if w.Intn(8) == 0 {
					tunes(t, session, other, w.Rand)
				}
				agrees(t, session, other, w.line())
				most = max(most, len(session.Fast()))
			}
			if t.Failed() {
				t.FailNow()
			}
		}
	}
	if most < 5 {
		t.Errorf("at most %d words were fast at a time", most)
	}
}

// callsOnly is a line of definitions that call each other, and of calls; in
// these sessions words go from slow to fast and back all the time.
func (w writer) callsOnly() string {
	text := ""
	for range 1 + w.Intn(5) {
		body := ""
		for range w.Intn(4) {
			body += w.one("@ @ @ @ 0_if_@_then {_@_} {_:_@_;_} {_:_@_@_;_@_} exit 3_0_do_@_loop dup_if_1_-_recurse_then")
			body += " "
		}
		switch w.Intn(5) {
		case 0, 1:
			text += ": @ " + body + "; "
		case 2:
			text += "1 2 @ "
		default:
			text += "@ "
		}
	}
	return w.filled(text)
}

// filled puts a name for each @, and a blank for each _.
func (w writer) filled(text string) string {
	out := ""
	for _, letter := range text {
		switch letter {
		case '@':
			out += w.name()
		case '_':
			out += " "
		default:
			out += string(letter)
		}
	}
	return out
}

func TestWordsThatCallWordsAnswerAsTheModel(t *testing.T) {
	seen := map[int]int{}
	for seed, count := range []int{2, 3, 5, 8, 12} {
		w := writer{rand.New(rand.NewSource(int64(200 + seed))), manyNames()[:count]}
		for range 300 {
			session, other := New(), newModel()
			tunes(t, session, other, w.Rand)
			for _, name := range w.names {
				agrees(t, session, other, ": "+name+" ;")
			}
			for range 25 {
				agrees(t, session, other, w.callsOnly())
				seen[len(session.Fast())]++
				if w.Intn(12) == 0 {
					tunes(t, session, other, w.Rand)
				}
			}
			if t.Failed() {
				t.FailNow()
			}
		}
	}
	for count := range 10 {
		if seen[count] == 0 {
			t.Errorf("never %d words were fast: %v", count, seen)
		}
	}
}
