package anvil

import (
	"math/rand"
	"strings"
	"testing"

	"anvil/api"
)

// answers asks a session for all it says of a line.
func answers(session *Session, text string) answer {
	out, why := session.Line(text)
	return answer{text, out, why}
}

func TestNoTextPanics(t *testing.T) {
	random := rand.New(rand.NewSource(2))
	alphabet := "0123456789-+*/.@!<=:;{} \x00\n\x7f\xff~abdeimoprstuvw"
	session := New()
	for range 20000 {
		text := make([]byte, random.Intn(30))
		for at := range text {
			text[at] = alphabet[random.Intn(len(alphabet))]
		}
		out, why := session.Line(string(text))
		if why < api.OK || why > api.ErrFuel {
			t.Errorf("P1: Line(%q) is %d, no error of the document", text, why)
		}
		if why == api.ErrText && out != "" || len(out) > api.MaxOut {
			t.Errorf("P1: Line(%q) printed %q", text, out)
		}
	}
}

func TestEveryShortTextEnds(t *testing.T) {
	session := New()
	for first := range 256 {
		for second := range 256 {
			text := string([]byte{byte(first), byte(second)})
			_, why := session.Line(text)
			bad := first < 32 || first > 126 || second < 32 || second > 126
			if bad != (why == api.ErrText) {
				t.Errorf("P1: Line(%q) is %d", text, why)
			}
		}
	}
}

func TestFirstErrorIsTold(t *testing.T) {
	eachSays(t,
		answer{"x 1 0 /", "", api.ErrWord},
		answer{"1 0 / x", "", api.ErrZero},
		answer{"if x", "", api.ErrForm},
		answer{"x if", "", api.ErrWord},
		answer{"1 . + 99 @ x", "1 ", api.ErrUnder},
		answer{"99 @ +", "", api.ErrCell},
		answer{"+ \n", "", api.ErrText},
		answer{strings.Repeat("1 ", 33) + "x", "", api.ErrOver},
	)
}

func TestSessionsAreApart(t *testing.T) {
	random := rand.New(rand.NewSource(3))
	left, right := New(), New()
	var leftSaid, rightSaid []answer
	for range 300 {
		leftSaid = append(leftSaid, answers(left, randomLine(random)))
		rightSaid = append(rightSaid, answers(right, randomLine(random)))
	}
	// Each one, alone and anew, says the same again.
	says(t, New(), leftSaid...)
	says(t, New(), rightSaid...)
}

func TestOneSessionIsNotSeenByAnother(t *testing.T) {
	first, second := New(), New()
	says(t, first, answer{"1 2 3 9 0 !", "", api.OK})
	says(t, second, answer{"0 @ .", "0 ", api.OK})
	holds(t, second)
	says(t, second, answer{"x", "", api.ErrWord})
	says(t, first, answer{"0 @ .", "9 ", api.OK})
	holds(t, first, 1, 2, 3)
	says(t, New(), answer{"0 @ .", "0 ", api.OK})
}

func TestWhatWasPrintedStays(t *testing.T) {
	session := New()
	first, _ := session.Line("1 . 2 .")
	says(t, session, answer{"3 . 4 . 5 .", "3 4 5 ", api.OK})
	if first != "1 2 " {
		t.Errorf("P2: an earlier answer is now %q", first)
	}
}
