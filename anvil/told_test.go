package anvil

import (
	"math"
	"slices"
	"strings"
	"testing"

	"anvil/api"
)

func tellsStack(t *testing.T, session *Session, want ...int) {
	t.Helper()
	if got := session.Stack(); !slices.Equal(got, want) {
		t.Errorf("P4: Stack() = %d, want %d", got, want)
	}
}

func tellsCell(t *testing.T, session *Session, n, want int) {
	t.Helper()
	if got, why := session.Cell(n); got != want || why != api.OK {
		t.Errorf("P4: Cell(%d) = %d, %d, want %d", n, got, why, want)
	}
}

func tellsWords(t *testing.T, session *Session, want ...string) {
	t.Helper()
	if got := session.Words(); !slices.Equal(got, want) {
		t.Errorf("P4: Words() = %q, want %q", got, want)
	}
}

func TestNewTellsNothing(t *testing.T) {
	session := New()
	tellsStack(t, session)
	tellsWords(t, session)
	for n := range api.Cells {
		tellsCell(t, session, n, 0)
	}
}

func TestStack(t *testing.T) {
	session := New()
	says(t, session, answer{"1 -2 3", "", api.OK})
	tellsStack(t, session, 1, -2, 3)
	tellsStack(t, session, 1, -2, 3)
	says(t, session, answer{"+ " + least, "", api.OK})
	tellsStack(t, session, 1, 1, math.MinInt64)
	says(t, session, answer{"1 -", "", api.OK})
	tellsStack(t, session, 1, 1, math.MaxInt64)
	says(t, session, answer{"\n", "", api.ErrText})
	tellsStack(t, session, 1, 1, math.MaxInt64)
	says(t, session, answer{"nope", "", api.ErrWord})
	tellsStack(t, session)
	says(t, session, answer{strings.Repeat("7 ", api.MaxStack), "", api.OK})
	tellsStack(t, session, slices.Repeat([]int{7}, api.MaxStack)...)
}

func TestCell(t *testing.T) {
	session := New()
	says(t, session, answer{"3 15 ! -4 0 ! " + least + "7 !", "", api.OK})
	for n := range api.Cells {
		tellsCell(t, session, n, map[int]int{15: 3, 0: -4, 7: math.MinInt64}[n])
	}
	for _, n := range []int{-1, api.Cells, api.Cells + 1, -api.Cells, 1 << 32, 1<<32 + 1, math.MaxInt64, math.MinInt64} {
		if got, why := session.Cell(n); got != 0 || why != api.ErrCell {
			t.Errorf("P4: Cell(%d) = %d, %d", n, got, why)
		}
	}
	says(t, session, answer{"8 0 ! nope", "", api.ErrWord})
	tellsCell(t, session, 0, 8)
	tellsCell(t, session, 15, 3)
}

func TestWords(t *testing.T) {
	session := New()
	says(t, session, answer{": b ; : a ; : ab ; : zz ; : aa ; : z ; : b 1 ;", "", api.OK})
	tellsWords(t, session, "a", "aa", "ab", "b", "z", "zz")
	says(t, session, answer{": m { : q ; : ba ; nope } ; m", "", api.ErrWord})
	tellsWords(t, session, "a", "aa", "ab", "b", "ba", "m", "q", "z", "zz")
	says(t, session, answer{": no nope ;", "", api.ErrWord})
	tellsWords(t, session, "a", "aa", "ab", "b", "ba", "m", "q", "z", "zz")
}

func TestAllWordsAreTold(t *testing.T) {
	session := New()
	fill(t, session, api.MaxWords)
	want := manyNames()[:api.MaxWords]
	slices.Sort(want)
	for range 20 {
		tellsWords(t, session, want...)
	}
}

func TestListsAreNewMemory(t *testing.T) {
	session := New()
	says(t, session, answer{": a 1 . ; : b 2 . ; : c ; 5 6 7 drop", "", api.OK})
	other := session.Stack()
	names := session.Words()
	for range 2 {
		stack := session.Stack()
		stack = stack[:cap(stack)]
		for at := range stack {
			stack[at] = 99
		}
		words := session.Words()
		words = words[:cap(words)]
		for at := range words {
			words[at] = "zzz"
		}
	}
	if !slices.Equal(other, []int{5, 6}) || !slices.Equal(names, []string{"a", "b", "c"}) {
		t.Errorf("P2: lists told earlier are now %d, %q", other, names)
	}
	tellsStack(t, session, 5, 6)
	tellsWords(t, session, "a", "b", "c")
	says(t, session, answer{"8 . a b", "8 1 2 ", api.OK})
	tellsStack(t, session, 5, 6)
	// And what the session does later is not seen in them.
	says(t, session, answer{"drop drop 1 2 3 : d ;", "", api.OK})
	if !slices.Equal(other, []int{5, 6}) || !slices.Equal(names, []string{"a", "b", "c"}) {
		t.Errorf("P2: lists told earlier are now %d, %q", other, names)
	}
}

func TestTellingChangesNothing(t *testing.T) {
	asked, silent := New(), New()
	for _, text := range []string{"1 2 : a 3 . ;", "a 4 0 !", "nope", ": b { : a 7 . ; } a ; b", "5 b"} {
		out, why := silent.Line(text)
		says(t, asked, answer{text, out, why})
		asked.Stack()
		asked.Words()
		asked.Cell(0)
		asked.Cell(-1)
	}
	tellsStack(t, asked, silent.Stack()...)
	tellsWords(t, asked, silent.Words()...)
	tellsCell(t, asked, 0, 4)
}

func TestWordsOfSessionsAreApart(t *testing.T) {
	first, second := New(), New()
	says(t, first, answer{": a 1 . ; : b { : c 2 . ; } ;", "", api.OK})
	says(t, second,
		answer{"a", "", api.ErrWord},
		answer{": a 5 . ; : b a ; b", "5 ", api.OK},
	)
	says(t, first, answer{"a b c", "1 2 ", api.OK})
	tellsWords(t, second, "a", "b")
	tellsWords(t, first, "a", "b", "c")
}
