package anvil

import (
	"math/rand"
	"slices"
	"strings"
	"testing"

	"anvil/api"
)

// writer writes lines with definitions; most are such that they go on.
type writer struct {
	*rand.Rand
	names []string
}

func (w writer) one(of string) string {
	all := strings.Fields(of)
	return all[w.Intn(len(all))]
}

func (w writer) name() string {
	return w.names[w.Intn(len(w.names))]
}

// calm is some tokens that leave the stack as high as it was, or higher.
func (w writer) calm() string {
	switch w.Intn(7) {
	case 0:
		return w.one("1 2 3 0 -1 7 15")
	case 1:
		return w.one("1 2 3 4 5 6") + " ."
	case 2:
		return w.one("1 2") + " " + w.one("dup over") + " " + w.one("+ - * < = swap drop")
	case 3:
		return "dup " + w.one("0 1 2 3") + " " + w.one("! ! @")
	case 4:
		return w.one("0 1 2 3 4") + " @ " + w.one(". drop emit dup")
	case 5:
		return "dup ."
	}
	return w.one("dup swap over rot drop + - * / mod = < . emit @ ! 0 0 99")
}

func (w writer) body(level int) string {
	var text strings.Builder
	for range w.Intn(4) {
		text.WriteString(w.item(level) + " ")
	}
	return text.String()
}

func (w writer) item(level int) string {
	if w.Intn(60) == 0 {
		return w.one("nope if else then begin until while repeat do loop i } { : ; 1.5")
	}
	pick := w.Intn(20)
	if level > 3 {
		pick = w.Intn(11)
	}
	switch pick {
	case 0, 1, 2, 3, 4:
		return w.calm()
	case 5, 6, 7:
		return w.name()
	case 8:
		return w.one("recurse exit 1 2")
	case 9, 10:
		return w.braces()
	case 11, 12:
		return w.one("dup over 0 1") + " if " + w.body(level+1) + "then"
	case 13:
		return w.one("dup over 0 1") + " if " + w.body(level+1) + "else " + w.body(level+1) + "then"
	case 14:
		return w.one("3 -2 2") + " begin " + w.body(level+1) + w.one("1 dup") + " - dup 0 " + w.one("= <") + " until"
	case 15:
		return w.one("3 2 1") + " begin dup while " + w.body(level+1) + "1 - repeat"
	case 16, 17:
		return w.one("2 3 1 0 -1 dup") + " " + w.one("0 0 1 -2 over") + " do " + w.body(level+1) + w.one("i i. . dup") + " drop loop"
	}
	return w.one("3 2") + " 0 do i . " + w.body(level+1) + "loop"
}

func (w writer) braces() string {
	switch w.Intn(4) {
	case 0:
		return "{ " + w.calm() + " " + w.name() + " }"
	case 1:
		return "{ : " + w.name() + " " + w.calm() + " ; }"
	case 2:
		return "{ : " + w.name() + " " + w.one("recurse exit dup if 0 nope 7") + " " + w.calm() + " ; " + w.name() + " }"
	}
	return "{ " + w.one("1 i ; nope : exit if x 2 3 4 5 6 7 8 9") + " }"
}

func (w writer) line() string {
	for {
		var text strings.Builder
		for range 1 + w.Intn(4) {
			switch w.Intn(8) {
			case 0, 1, 2:
				text.WriteString(": " + w.name() + " " + w.body(0) + "; ")
			case 3, 4:
				text.WriteString("1 2 3 " + w.name() + " ")
			case 5:
				text.WriteString(w.name() + " ")
			case 6:
				text.WriteString(w.calm() + " ")
			case 7:
				text.WriteString(w.name() + " ")
				if w.Intn(10) == 0 {
					text.WriteString(w.one("nope if ; { } : i recurse exit") + " ")
				}
			}
		}
		if text.Len() <= api.MaxLine {
			return text.String()
		}
	}
}

// agrees asks a session and the model for all that they tell of a line.
func agrees(t *testing.T, session *Session, other *model, text string) api.Errno {
	t.Helper()
	out, why := other.line(text)
	says(t, session, answer{text, out, why})
	var stack []int
	for _, number := range other.stack {
		stack = append(stack, int(number.Int64()))
	}
	if got := session.Stack(); !slices.Equal(got, stack) {
		t.Errorf("P4: behind Line(%q) the stack is %d, want %d", text, got, stack)
	}
	for n, number := range other.cells {
		want := 0
		if number != nil {
			want = int(number.Int64())
		}
		if got, why := session.Cell(n); got != want || why != api.OK {
			t.Errorf("P4: behind Line(%q) cell %d is %d, %d, want %d", text, n, got, why, want)
		}
	}
	var names []string
	for name := range other.words {
		names = append(names, name)
	}
	slices.Sort(names)
	if got := session.Words(); !slices.Equal(got, names) {
		t.Errorf("P4: behind Line(%q) the words are %q, want %q", text, got, names)
	}
	if got, want := session.Fast(), other.fastNames(); !slices.Equal(got, want) {
		t.Errorf("P5: behind Line(%q) the fast words are %q, want %q", text, got, want)
	}
	return why
}

// manyNames are more than there may be words.
func manyNames() []string {
	var names []string
	for at := range api.MaxWords + 5 {
		names = append(names, "w"+strings.Repeat("x", at/26)+string(rune('a'+at%26)))
	}
	return names
}

func TestRandomDefinitionsAnswerAsTheModel(t *testing.T) {
	told := map[api.Errno]int{}
	for seed, names := range [][]string{{"a", "b", "c"}, {"a", "bb", "ccc", "d", "e", "fgh"}, manyNames()} {
		w := writer{rand.New(rand.NewSource(int64(seed))), names}
		for range 400 {
			session, other := New(), newModel()
			// All names are words first, else most bodies would be refused.
			for at, name := range names {
				if at < api.MaxWords-2 {
					agrees(t, session, other, ": "+name+" 1 . ;")
				}
			}
			for range 12 {
				told[agrees(t, session, other, w.line())]++
			}
			if t.Failed() {
				t.FailNow()
			}
		}
	}
	for why := api.ErrWord; why <= api.ErrFuel; why++ {
		if told[why] == 0 || told[api.OK] == 0 {
			t.Errorf("no random line was answered by %d: %v", why, told)
		}
	}
}

func TestAnyTokensAnswerAsTheModel(t *testing.T) {
	all := "1 0 3 -7 dup drop swap over . + ! @ a a b b c : : : ; ; ; { } if else then begin until while repeat do loop i recurse exit nope"
	w := writer{rand.New(rand.NewSource(9)), nil}
	for range 3000 {
		session, other := New(), newModel()
		agrees(t, session, other, "1 2 3 : a 1 . ; : b dup . ;")
		for range 5 {
			var text strings.Builder
			for range w.Intn(12) {
				text.WriteString(w.one(all) + " ")
			}
			agrees(t, session, other, text.String()+": c "+text.String())
			agrees(t, session, other, ": c { "+text.String()+"} ; c")
		}
		if t.Failed() {
			t.FailNow()
		}
	}
}
