package anvil

import (
	"math/rand"
	"slices"
	"testing"

	"anvil/api"
)

// same tells that two sessions have the same stack, cells and words.
func same(t *testing.T, got, want *Session, behind string) {
	t.Helper()
	if !slices.Equal(got.Stack(), want.Stack()) {
		t.Errorf("P6: behind %q the stack is %d, want %d", behind, got.Stack(), want.Stack())
	}
	if !slices.Equal(got.Words(), want.Words()) {
		t.Errorf("P6: behind %q the words are %q, want %q", behind, got.Words(), want.Words())
	}
	for n := range api.Cells {
		gotCell, gotWhy := got.Cell(n)
		wantCell, wantWhy := want.Cell(n)
		if gotCell != wantCell || gotWhy != wantWhy {
			t.Errorf("P6: behind %q cell %d is %d, %d, want %d, %d", behind, n, gotCell, gotWhy, wantCell, wantWhy)
		}
	}
}

// unseen runs lines in a session that is not tuned, and in one that is tuned
// ahead of every line as tune says; both must answer the same.
func unseen(t *testing.T, lines []string, tune func(session *Session)) {
	t.Helper()
	plain, tuned := New(), New()
	for _, text := range lines {
		tune(tuned)
		out, why := plain.Line(text)
		says(t, tuned, answer{text, out, why})
		same(t, tuned, plain, text)
	}
}

// everyTuning is unseen for tuning once, ahead of all, and ahead of each line.
func everyTuning(t *testing.T, lines ...string) {
	t.Helper()
	for hot := 1; hot <= 7; hot++ {
		for built := range api.MaxBuilt + 1 {
			first := true
			unseen(t, lines, func(session *Session) {
				if first {
					session.Tune(hot, built)
				}
				first = false
			})
			unseen(t, lines, func(session *Session) { session.Tune(hot, built) })
		}
	}
}

func TestWordsDefinedAgainAreSeenAtOnce(t *testing.T) {
	everyTuning(t,
		": a 1 . ; : b a { : a 2 . ; } a ; : c b a b ;", "b b", "c c", ": a 3 . ; c c", ": b 4 . ; c", "c c c",
		": b 1 . { : b 2 . ; } 3 . ; b b", ": b { : a 5 . ; } a { : b a a ; } b ; b b c",
		": d a 7 . ; : a { : d 8 . ; } 9 . ; d d d", ": n 5 0 do a i . { : a 6 . ; } loop ; n n",
		": a 1 . ; : x { : a 2 . ; } ; : y a x a x a ; y y : a 3 . ; y y",
	)
}

func TestExitLeavesTheWordThatItStandsIn(t *testing.T) {
	everyTuning(t,
		": a if exit then 1 . ; : b a 2 . ; : c b 3 . b 4 . ;", "1 0 1 b b b", "0 1 c 1 0 c", "1 1 1 1 c c",
		": a 5 0 do i . i 2 = if exit then loop 9 . ; b c b", ": d 3 0 do a i . b loop ; d",
		": a begin exit 0 until ; d c", ": a exit ; d c", ": b exit a ; d c", ": c 3 0 do a b exit loop 5 . ; c d c",
	)
}

func TestIndexesAreOfTheirOwnBody(t *testing.T) {
	everyTuning(t,
		": a 2 0 do i . loop ; : b 12 10 do a i . a i . loop ; : c 22 20 do i . b i . loop a ;", "a b c", "c", "a c b",
		": a 3 0 do i . i 1 = if exit then loop ; c", "b c", ": a 2 0 do dup if 1 - recurse 1 + then i . loop ; 1 a . 1 b .",
	)
}

func TestRecurseIsOfItsOwnBody(t *testing.T) {
	everyTuning(t,
		": f dup 2 < if drop 1 else dup 1 - recurse * then ; : g f 1 + ; : h g g ;", "5 f . 3 g . 2 h .", "5 f . 3 g . 2 h .",
		"4 f . 4 g . 3 h .", ": f dup if dup . 1 - { : f 9 . drop ; } recurse then ; 3 g . 3 g", "1 h .",
		": f dup if dup . 1 - recurse then ; 3 g . 2 h .", ": g f recurse ; 1 g", "1 h",
	)
}

func TestStepsAndDepthAreTheSame(t *testing.T) {
	everyTuning(t,
		": a 1 drop ; : b a a ; : c b b ; : d 0 do c loop ;", "100 d 1 .", "131 d 1 .", "132 d 1 .", "133 d 1 .", "134 d 1 .", "d",
		": r dup if 1 - recurse else c drop then ;", "14 r 1 .", "15 r 1 .", "16 r 1 .", "17 r 1 .", "18 r 1 .", "19 r 1 .", "20 r 1 .",
		": w dup if 1 - recurse else 1 . b 2 . c 3 . then ;", "16 w", "17 w", "18 w", "19 w",
		": c c ; c 1 .", "c", ": a { a } ; a", "b",
	)
}

func TestErrorsInsideAreTheSame(t *testing.T) {
	for _, text := range []string{"0 /", "99 @", "1 99 !", "drop drop drop drop drop drop drop", "{ nope }", "{ ; }", "begin 0 until", "recurse", "40 0 do i loop", "400 0 do 1 emit loop"} {
		everyTuning(t,
			": a 1 . ; : b 5 a 2 . ; : c b 3 . 7 1 ! ; c c c c", "8 1 ! : a 4 . "+text+" 6 2 ! ; 1 2 c 5 .", "c", "1 a", "4 5 b",
			": a 6 . ; c c", "1 2 b c",
		)
	}
}

func TestTuningIsUnseenInRandomSessions(t *testing.T) {
	for seed, names := range [][]string{{"a", "b"}, {"a", "b", "c", "d"}, manyNames()[:9]} {
		w := writer{rand.New(rand.NewSource(int64(300 + seed))), names}
		for range 250 {
			var lines []string
			for _, name := range names {
				lines = append(lines, ": "+name+" 1 . ;")
			}
			for range 8 {
				lines = append(lines, w.line(), w.callsOnly())
			}
			often := 1 + w.Intn(6)
			unseen(t, lines, func(session *Session) {
				if w.Intn(often) == 0 {
					session.Tune(w.Intn(9)-1, w.Intn(7)-1)
				}
				if w.Intn(20) == 0 {
					session.Tune(w.Int(), -w.Int())
				}
			})
			if t.Failed() {
				t.FailNow()
			}
		}
	}
}
