package words

import (
	"maps"
	"math/rand"
	"slices"
	"strings"
	"testing"

	"anvil/api"
	"anvil/machine"
	"anvil/token"
)

// run runs a line on a stack of its own.
func run(book *Book, text string) api.Errno {
	var state machine.State
	return book.Run(state.Start(), token.Split(text))
}

// tunedBook is a new one with these words.
func tunedBook(t *testing.T, hot, built int, text string) *Book {
	t.Helper()
	book := NewBook()
	if why := book.Tune(hot, built); why != api.OK {
		t.Fatalf("P5: Tune(%d, %d) is %d", hot, built, why)
	}
	if why := run(book, text); why != api.OK {
		t.Fatalf("P3: %q is %d", text, why)
	}
	return book
}

func names(words map[string]*word) string {
	return strings.Join(slices.Sorted(maps.Keys(words)), " ")
}

func TestParts(t *testing.T) {
	const definitions = ": a ; : b a ; : c b b { z } recurse ; : d 0 if c else a then ; "
	for built, want := range []string{"", "a c", "a b c", "a b c"} {
		book := tunedBook(t, 1, built, definitions+"1 d")
		if got := names(book.words["d"].parts); got != want {
			t.Errorf("P5: built in %d times: %q, want %q", built, got, want)
		}
	}
	// Of a word that is not fast there are none.
	book := tunedBook(t, 2, 3, definitions+"1 d")
	if got := names(book.words["d"].parts); got != "" {
		t.Errorf("P5: a slow word has %q built in", got)
	}
}

// runsSlow tells whether a word runs the acts without anything built in.
func runsSlow(w *word) bool {
	return len(w.acts) == 0 || &w.acts[0] == &w.slow[0]
}

// fits tells that the maps of all words fit together.
func fits(t *testing.T, book *Book, behind string) {
	t.Helper()
	for name, w := range book.words {
		if w.name != name || w.gone || !w.fast && len(w.parts) > 0 || w.fast == (w.count < book.hot) {
			t.Fatalf("P5: behind %q %s is %+v", behind, name, w)
		}
		if !w.fast && !runsSlow(w) || len(w.parts) > 0 && runsSlow(w) {
			t.Fatalf("P5: behind %q %s runs other acts than it should", behind, name)
		}
		for partName, part := range w.parts {
			if book.words[partName] != part || part.wholes[name] != w {
				t.Fatalf("P5: behind %q %s in %s is an old one, or does not know", behind, partName, name)
			}
		}
		for wholeName, whole := range w.wholes {
			if book.words[wholeName] != whole || whole.parts[name] != w {
				t.Fatalf("P5: behind %q %s into %s is an old one, or does not know", behind, name, wholeName)
			}
		}
	}
}

func TestPartsAndWholesFitTogether(t *testing.T) {
	random := rand.New(rand.NewSource(1))
	one := func(of string) string {
		all := strings.Fields(of)
		return all[random.Intn(len(all))]
	}
	for range 300 {
		book := tunedBook(t, 1+random.Intn(3), random.Intn(4), ": a ; : b ; : c ; : d ; : e ;")
		for range 40 {
			text := one("a b c d e")
			if random.Intn(2) == 0 {
				text = ": " + text + " "
				for range random.Intn(4) {
					text += one("a b c d e exit") + " "
				}
				if random.Intn(3) == 0 {
					text += "{ : " + one("a b c d e") + " " + one("a b c d e") + " ; } " + one("a b c d e") + " "
				}
				text += ";"
			}
			run(book, text)
			fits(t, book, text)
			if random.Intn(15) == 0 {
				book.Tune(1+random.Intn(3), random.Intn(4))
				fits(t, book, "Tune")
			}
		}
	}
}

// TestBuildingInSavesRuns: what is built in needs no run of its own, and so no
// memory for one.
func TestBuildingInSavesRuns(t *testing.T) {
	const calls = 200
	var needs []float64
	for built := range 3 {
		book := tunedBook(t, 1, built, ": a ; : b a ; : c "+strings.Repeat("b ", calls)+"; c")
		needs = append(needs, testing.AllocsPerRun(20, func() {
			if why := run(book, "c"); why != api.OK {
				t.Fatalf("P3: c is %d", why)
			}
		}))
	}
	if needs[0]-needs[1] < calls || needs[1]-needs[2] < calls {
		t.Errorf("built in 0, 1 and 2 times, %d calls of calls need %.0f pieces of memory", calls, needs)
	}
}
