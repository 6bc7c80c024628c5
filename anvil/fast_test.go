package anvil

import (
	"math"
	"slices"
	"strconv"
	"strings"
	"testing"

	"anvil/api"
)

// runs runs lines that print nothing.
func runs(t *testing.T, session *Session, lines ...string) {
	t.Helper()
	for _, text := range lines {
		says(t, session, answer{text, "", api.OK})
	}
}

// tellsFast tells that these words are fast, with blanks between them.
func tellsFast(t *testing.T, session *Session, want string) {
	t.Helper()
	if got := session.Fast(); !slices.Equal(got, strings.Fields(want)) {
		t.Errorf("P5: Fast() = %q, want %q", got, want)
	}
}

func tuned(t *testing.T, session *Session, hot, built int, want api.Errno) {
	t.Helper()
	if why := session.Tune(hot, built); why != want {
		t.Errorf("P5: Tune(%d, %d) is %d, want %d", hot, built, why, want)
	}
}

// tunedTo is a new session.
func tunedTo(t *testing.T, hot, built int) *Session {
	t.Helper()
	session := New()
	tuned(t, session, hot, built, api.OK)
	return session
}

func TestExampleOfFastWords(t *testing.T) {
	session := New()
	tellsFast(t, session, "")
	runs(t, session, ": a 1 drop ; : b a ; b b b b")
	tellsFast(t, session, "")
	runs(t, session, "b")
	tellsFast(t, session, "a b")
	runs(t, session, ": a ;")
	tellsFast(t, session, "")

	session = tunedTo(t, 5, 0)
	runs(t, session, ": a 1 drop ; : b a ; b b b b b")
	tellsFast(t, session, "a b")
	runs(t, session, ": a ;")
	tellsFast(t, session, "b")
}

func TestFastAtJustTheEntryThatMakesTheCountFull(t *testing.T) {
	for hot := 1; hot <= 40; hot++ {
		session := tunedTo(t, hot, 1)
		runs(t, session, ": a ;")
		for range hot - 1 {
			runs(t, session, "a")
			tellsFast(t, session, "")
		}
		for range 3 {
			runs(t, session, "a")
			tellsFast(t, session, "a")
		}
	}
	session := tunedTo(t, api.MaxHot, api.MaxBuilt)
	runs(t, session, ": a ; : many 0 do a loop ; 900 many", "99 many")
	tellsFast(t, session, "")
	runs(t, session, "a")
	tellsFast(t, session, "a")
}

func TestFirstTuning(t *testing.T) {
	session := New()
	runs(t, session, ": a ; : b a ; : c b ; c c c c")
	tellsFast(t, session, "")
	runs(t, session, "c")
	tellsFast(t, session, "a b c")
	// a is built into b, and not into c.
	runs(t, session, ": a ;")
	tellsFast(t, session, "c")
}

func TestTuneLimits(t *testing.T) {
	for _, hot := range []int{1, 2, 5, api.MaxHot - 1, api.MaxHot} {
		for built := range api.MaxBuilt + 1 {
			tunedTo(t, hot, built)
		}
	}
	session := tunedTo(t, 3, 1)
	runs(t, session, ": a ; : b a ; : c ; b b b c c")
	wrong := []int{math.MinInt64, math.MinInt32, -1, 0, api.MaxHot + 1, 1<<32 + 5, math.MaxInt64}
	for _, hot := range wrong {
		for _, built := range []int{0, 1, api.MaxBuilt, api.MaxBuilt + 1, -1} {
			tuned(t, session, hot, built, api.ErrArg)
		}
	}
	for _, built := range []int{math.MinInt64, -1, api.MaxBuilt + 1, 1 << 32, 1<<32 + 1, math.MaxInt64} {
		for _, hot := range []int{1, 3, api.MaxHot, 0, api.MaxHot + 1} {
			tuned(t, session, hot, built, api.ErrArg)
		}
	}
	// What is refused changes nothing: fast words, counts, and both numbers.
	tellsFast(t, session, "a b")
	runs(t, session, "c")
	tellsFast(t, session, "a b c")
	runs(t, session, ": a ; : c ; c c")
	tellsFast(t, session, "")
	runs(t, session, "c b b b")
	tellsFast(t, session, "a b c")
	runs(t, session, ": a ;")
	tellsFast(t, session, "c")
}

func TestTuneMakesAllWordsSlow(t *testing.T) {
	session := tunedTo(t, 3, 1)
	runs(t, session, ": a ; : b a ; : c ; b b b c c")
	tellsFast(t, session, "a b")
	// To the same numbers, too; the counts are 0.
	tuned(t, session, 3, 1, api.OK)
	tellsFast(t, session, "")
	runs(t, session, "c c b b")
	tellsFast(t, session, "")
	runs(t, session, "c b")
	tellsFast(t, session, "a b c")
	// What was built in then is forgotten.
	tuned(t, session, 2, 0, api.OK)
	runs(t, session, "b b : a ;")
	tellsFast(t, session, "b")
	tuned(t, session, 2, 1, api.OK)
	runs(t, session, "b b : a ;")
	tellsFast(t, session, "")
	// A count is not full by tuning alone.
	tuned(t, session, 4, 1, api.OK)
	runs(t, session, "b b b")
	tuned(t, session, 3, 1, api.OK)
	tellsFast(t, session, "")
	runs(t, session, "b b")
	tellsFast(t, session, "")
	runs(t, session, "b")
	tellsFast(t, session, "a b")
}

// chain defines p, called by q, called by r, and so on up to u.
const chain = ": p ; : q p ; : r q ; : s r ; : t s ; : u t ; "

func TestWhatIsBuiltIn(t *testing.T) {
	for built := range api.MaxBuilt + 1 {
		// Which words are slow again when one is defined: itself, and so many
		// of those that stand behind it.
		for at, name := range strings.Fields("p q r s t u") {
			session := tunedTo(t, 1, built)
			runs(t, session, chain+"u")
			tellsFast(t, session, "p q r s t u")
			runs(t, session, ": "+name+" ;")
			left := strings.Fields("p q r s t u")
			left = slices.Delete(left, at, min(at+built+1, len(left)))
			tellsFast(t, session, strings.Join(left, " "))
		}
	}
}

func TestBuiltInBySeveralWays(t *testing.T) {
	// a stands once further down and once at once; it is built in at once.
	session := tunedTo(t, 1, 1)
	runs(t, session, ": a ; : b a ; : c b a b a ; c : a ;")
	tellsFast(t, session, "")
	// The shortest way counts, whichever stands first.
	for _, body := range []string{"b d", "d b", "b d b", "d d b d"} {
		session = tunedTo(t, 1, 2)
		runs(t, session, ": a ; : b a ; : d b ; : c "+body+" ; c : a ;")
		tellsFast(t, session, "")
	}
	session = tunedTo(t, 1, 2)
	runs(t, session, ": a ; : b a ; : d b ; : c d ; c : a ;")
	tellsFast(t, session, "c")
	// Words that call each other, and themselves.
	for built := range api.MaxBuilt + 1 {
		session = tunedTo(t, 1, built)
		runs(t, session, ": a ; : b a ; : a 0 if b then ; : c 0 if a then ; a b c")
		tellsFast(t, session, "a b c")
		runs(t, session, ": b a ;")
		tellsFast(t, session, []string{"a c", "c", "", ""}[built])
	}
}

func TestBuiltInWhicheverWayItGoes(t *testing.T) {
	for _, body := range []string{
		"0 if a then", "1 if else a then", "exit a", "0 0 do a loop", "begin 1 until a", "begin 0 while a repeat", "begin 1 a until",
		"1 0 do 1 0 do 0 if a then loop loop",
	} {
		session := tunedTo(t, 1, 1)
		runs(t, session, ": a ; : b "+body+" ; b")
		if !slices.Contains(session.Fast(), "b") {
			t.Errorf("P5: %q: b is slow", body)
		}
		runs(t, session, ": a ;")
		tellsFast(t, session, "")
	}
}

func TestDefinedAgain(t *testing.T) {
	session := tunedTo(t, 2, 1)
	runs(t, session, ": a ; : b a ; : c a ; : d ; b b c c d d")
	tellsFast(t, session, "a b c d")
	// d is built into nothing.
	runs(t, session, ": d ;")
	tellsFast(t, session, "a b c")
	runs(t, session, "d")
	tellsFast(t, session, "a b c")
	runs(t, session, "d : new ;")
	tellsFast(t, session, "a b c d")
	// a is built into two words: their counts begin anew.
	runs(t, session, ": a ;")
	tellsFast(t, session, "d")
	runs(t, session, "b")
	tellsFast(t, session, "d")
	runs(t, session, "c")
	tellsFast(t, session, "a d")
	runs(t, session, "b")
	tellsFast(t, session, "a b d")
	runs(t, session, "c")
	tellsFast(t, session, "a b c d")
	// b is defined without a: nothing hangs on a any more, but c.
	runs(t, session, ": b ; b b : a ;")
	tellsFast(t, session, "b d")
	// The same body is a new one all the same.
	runs(t, session, ": d ;")
	tellsFast(t, session, "b")
}

func TestWordsThatAreSlowKeepTheirCounts(t *testing.T) {
	session := tunedTo(t, 3, 3)
	runs(t, session, ": a ; : b a ; : c b ; c c : a ; : z ;")
	tellsFast(t, session, "")
	runs(t, session, "c")
	tellsFast(t, session, "b c")
	// a has been entered once since.
	runs(t, session, "a")
	tellsFast(t, session, "b c")
	runs(t, session, "a")
	tellsFast(t, session, "a b c")
}

func TestSlowAgainIsNotHandedOn(t *testing.T) {
	session := tunedTo(t, 1, 1)
	runs(t, session, ": a ; : b a ; : c b ; : d c ; d : a ;")
	tellsFast(t, session, "c d")
	// b is slow now, and built into c all the same.
	runs(t, session, ": b ;")
	tellsFast(t, session, "d")
}

func TestBodiesAsTheyAreWhenAWordBecomesFast(t *testing.T) {
	session := tunedTo(t, 2, 2)
	runs(t, session, ": a ; : b a ; : d ; b b : d ;")
	tellsFast(t, session, "a b")
	runs(t, session, ": a d ;")
	tellsFast(t, session, "")
	// b has the a built in that calls d.
	runs(t, session, "b b")
	tellsFast(t, session, "a b d")
	runs(t, session, ": d ;")
	tellsFast(t, session, "")
	// And once more an a that does not.
	runs(t, session, ": a ; b b : d ;")
	tellsFast(t, session, "a b")
	// The body that a has at the last of the entries counts.
	session = tunedTo(t, 2, 2)
	runs(t, session, ": a ; : b a ; : d ; b : a d ; b : d ;")
	tellsFast(t, session, "")
	session = tunedTo(t, 2, 2)
	runs(t, session, ": d ; : a d ; : b a ; b : a ; b : d ;")
	tellsFast(t, session, "b")
}

func TestAWordIsFastAheadOfItsBody(t *testing.T) {
	// Its body defines a, which is built in by then.
	session := tunedTo(t, 1, 1)
	runs(t, session, ": a ; : b { : a ; } a ; b")
	tellsFast(t, session, "a")
	// With nothing built in it stays fast.
	session = tunedTo(t, 1, 0)
	runs(t, session, ": a ; : b { : a ; } a ; b")
	tellsFast(t, session, "a b")
	// It is slow again while it runs, and entered anew.
	session = tunedTo(t, 1, 1)
	runs(t, session, ": a ; : b dup if { : a ; } 1 - recurse else drop then a ; 1 b")
	tellsFast(t, session, "a b")
	// What an error ends has been entered.
	session = tunedTo(t, 1, 1)
	says(t, session, answer{": a 1 0 / ; : b a ; b", "", api.ErrZero})
	tellsFast(t, session, "a b")
}

func TestNamesInBraces(t *testing.T) {
	session := tunedTo(t, 1, 3)
	runs(t, session, ": a ; : b { a } ; : c b ; c")
	tellsFast(t, session, "a b c")
	runs(t, session, ": a ;")
	tellsFast(t, session, "b c")
	runs(t, session, ": b { a } a ; c")
	tellsFast(t, session, "a b c")
	runs(t, session, ": a ;")
	tellsFast(t, session, "")
	// Nor is what is defined there.
	runs(t, session, ": d { : e a ; } ; d")
	tellsFast(t, session, "d")
	runs(t, session, ": a ; : e ;")
	tellsFast(t, session, "d")
}

// enters tells how often a text enters a word behind some definitions: that
// often makes it fast, once more does not.
func enters(t *testing.T, definitions, text, name string, times int) {
	t.Helper()
	for built := range api.MaxBuilt + 1 {
		for _, hot := range []int{max(times, 1), times + 1} {
			session := New()
			session.Line(definitions)
			tuned(t, session, hot, built, api.OK)
			session.Line(text)
			if got, want := slices.Contains(session.Fast(), name), hot == times; got != want {
				t.Errorf("P5: %q behind %q, Tune(%d, %d): %s is fast: %v, want %v", text, definitions, hot, built, name, got, want)
			}
		}
	}
}

func TestEntries(t *testing.T) {
	// By its name, in a line, in bodies and in braces.
	enters(t, ": a ;", "a", "a", 1)
	enters(t, ": a ;", "a a a", "a", 3)
	enters(t, ": a ; : b a a ;", "b a b", "a", 5)
	enters(t, ": a ; : b a a ;", "b a b", "b", 2)
	enters(t, ": a ; : b { a } ; : c b b ;", "c", "a", 2)
	enters(t, ": a ; : b a ; : c b b ; : d c c ;", "d d", "a", 8)
	enters(t, ": a ; : b 7 0 do a loop ;", "b", "a", 7)
	enters(t, ": a dup 0 = ; : b begin a until begin a 0 = while repeat ;", "0 b", "a", 2)
	enters(t, ": a exit ;", "a a", "a", 2)
	// What follows an error is not reached, what ends by one is.
	enters(t, ": a 0 0 / ;", "a a", "a", 1)
	enters(t, ": a ;", "a nope a", "a", 1)
	// By recurse, and by its own name.
	enters(t, ": a dup if 1 - recurse then ;", "4 a", "a", 5)
	enters(t, ": a ; : a dup if 1 - a then ;", "4 a", "a", 5)
	enters(t, ": a dup if 1 - { a } then ;", "4 a", "a", 5)
	enters(t, ": a dup if 1 - recurse then ; : b a ; : c b ;", "4 c", "a", 5)
}

func TestNoEntries(t *testing.T) {
	enters(t, ": a ; : b 0 if a then ;", "b", "a", 0)
	enters(t, ": a ; : b exit a ;", "b", "a", 0)
	enters(t, ": a ;", ": b a a a ;", "a", 0)
	enters(t, ": a ;", "a \n", "a", 0)
	enters(t, ": a ;", "nope a", "a", 0)
	// It is a word anew.
	enters(t, ": a ;", "a a : a ;", "a", 0)
	enters(t, ": a ;", "a a : a ; a", "a", 1)
	enters(t, ": a ;", "a a : a", "a", 2)
	// What was entered ahead of Tune.
	enters(t, ": a ; a a a a", "a", "a", 1)
	enters(t, ": a ; a a a a a", "", "a", 0)
}

func TestTooDeepIsNoEntry(t *testing.T) {
	enters(t, ": a recurse ;", "a", "a", api.MaxDepth)
	enters(t, ": a ; : a a ;", "a", "a", api.MaxDepth)
	enters(t, ": a { a } ;", "a", "a", api.MaxDepth/2)
	enters(t, ": a ; : b dup if 1 - recurse else a then ;", "18 b", "a", 1)
	enters(t, ": a ; : b dup if 1 - recurse else a then ;", "19 b", "a", 0)
	enters(t, ": a ; : b dup if 1 - recurse else { a } then ;", "18 b", "a", 0)
	enters(t, ": a ; : c a ; : b dup if 1 - recurse else c then ;", "18 b", "a", 0)
	enters(t, ": a ; : c a ; : b dup if 1 - recurse else c then ;", "18 b", "c", 1)
}

func TestWithoutFuelIsNoEntry(t *testing.T) {
	enters(t, spender+": a ;", spend(api.MaxFuel-2)+"a a", "a", 2)
	enters(t, spender+": a ;", spend(api.MaxFuel-1)+"a a", "a", 1)
	enters(t, spender+": a ;", spend(api.MaxFuel)+"a", "a", 0)
	enters(t, spender+": a ; : b a a a ;", spend(api.MaxFuel-3)+"b", "a", 2)
	enters(t, spender+": a recurse ;", spend(api.MaxFuel-3)+"a", "a", 3)
}

func TestOldBodiesGoOn(t *testing.T) {
	// The recurse of a body that is not the word's any more enters no word.
	enters(t, "", ": a dup if 1 - { : a drop ; } recurse then ; 3 a", "a", 0)
	enters(t, ": a ; : new { : a ; } ;", ": a dup if 1 - new recurse recurse recurse then ; 1 a", "a", 0)
	// Its own name is that of the new one.
	enters(t, "", ": a ; : a { : a ; } a a ; a", "a", 2)
	enters(t, "", ": a { : a ; } { a a a } ; a", "a", 3)
	// The old one of a word that is built in.
	old := ": a ; : new { : a ; } ; : a dup if 1 - recurse new recurse recurse then ; : b a ; : c b ;"
	enters(t, "", old+" 1 c", "a", 0)
	enters(t, "", old+" 1 c a a", "a", 2)
	// What is old becomes neither fast nor slow by what is built into it.
	session := tunedTo(t, 1, 2)
	runs(t, session, ": z ; : a ; : b z { : b ; } a { : a ; } a { : z ; } ; b")
	tellsFast(t, session, "a")
	runs(t, session, "b : a ;")
	tellsFast(t, session, "b")
}

func TestAnOldBodyDoesNotStandForTheNewOne(t *testing.T) {
	// x stands in both bodies; the new one is fast ahead of the old one's recurse.
	session := tunedTo(t, 2, 1)
	runs(t, session, ": x ; : a dup if 1 - { : a x ; } { a a } recurse recurse else x then ; 1 a")
	tellsFast(t, session, "a x")
	runs(t, session, ": x ;")
	tellsFast(t, session, "")
}

func TestAnOldBodyWithTheSameTokensIsOld(t *testing.T) {
	same := ": a dup if 1 - new recurse then ;"
	enters(t, ": new ; : a ; : new { "+same+" } ;", same+" 1 a", "a", 0)
}

func TestARefusedDefinitionMakesNothingSlow(t *testing.T) {
	session := tunedTo(t, 1, 1)
	runs(t, session, spender+": a ; : b a ; b")
	for text, why := range map[string]api.Errno{
		": a nope ;": api.ErrWord, ": a if ;": api.ErrForm, ": a": api.ErrForm, ": a ; \n": api.ErrText, ": a : a ;": api.ErrForm,
		"1 0 / : a ;": api.ErrZero, spend(api.MaxFuel) + ": a ;": api.ErrFuel, ": 5 ;": api.ErrForm,
	} {
		says(t, session, answer{text, "", why})
		if got := session.Fast(); !slices.Contains(got, "a") || !slices.Contains(got, "b") {
			t.Errorf("P5: behind %q the fast words are %q", text, got)
		}
	}
	// What was read ahead of an error is defined.
	says(t, session, answer{": a ; nope", "", api.ErrWord})
	tellsFast(t, session, "spend")
}

func TestFastIsInTheOrderOfBytes(t *testing.T) {
	session := tunedTo(t, 1, 1)
	names := manyNames()[:api.MaxWords]
	for _, name := range names {
		runs(t, session, ": "+name+" ;", name)
	}
	slices.Sort(names)
	for range 20 {
		tellsFast(t, session, strings.Join(names, " "))
	}
	runs(t, session, ": wb ; : wxa ;")
	names = slices.DeleteFunc(names, func(name string) bool { return name == "wb" || name == "wxa" })
	tellsFast(t, session, strings.Join(names, " "))
}

func TestFastIsNewMemory(t *testing.T) {
	session := tunedTo(t, 1, 1)
	runs(t, session, ": a ; : b a ; : c b ; c")
	first := session.Fast()
	for range 2 {
		names := session.Fast()
		names = names[:cap(names)]
		for at := range names {
			names[at] = "other"
		}
	}
	tellsFast(t, session, "a b c")
	runs(t, session, ": a ; : c ; : d ; d")
	if !slices.Equal(first, []string{"a", "b", "c"}) {
		t.Errorf("P2: a list told earlier is now %q", first)
	}
	tellsFast(t, session, "d")
}

func TestTuningOfSessionsIsApart(t *testing.T) {
	first, second := New(), New()
	tuned(t, first, 2, 0, api.OK)
	for _, session := range []*Session{first, second} {
		runs(t, session, ": a ; : b a ; b b")
	}
	tellsFast(t, first, "a b")
	tellsFast(t, second, "")
	runs(t, second, "b b b")
	tellsFast(t, second, "a b")
	tuned(t, second, 1, 1, api.OK)
	tellsFast(t, first, "a b")
	runs(t, second, "b : a ;")
	runs(t, first, ": a ;")
	tellsFast(t, second, "")
	tellsFast(t, first, "b")
}

func TestManyCallsOfCallsAreBuiltIn(t *testing.T) {
	// All ways from d down to a are some millions, and each word is built in.
	session := tunedTo(t, 1, 3)
	runs(t, session, ": a ;")
	for _, names := range []string{"ba", "cb", "dc"} {
		runs(t, session, ": "+names[:1]+" exit "+strings.Repeat(names[1:]+" ", 190)+";")
	}
	for range 20 {
		runs(t, session, "d")
		tellsFast(t, session, "d")
		runs(t, session, ": a ;")
		tellsFast(t, session, "")
	}
}

func TestTellingCountsNothing(t *testing.T) {
	session := tunedTo(t, 3, 1)
	runs(t, session, ": a ; a a")
	for range 5 {
		session.Fast()
		session.Words()
		session.Stack()
		session.Cell(0)
	}
	tellsFast(t, session, "")
	runs(t, session, "", strconv.Itoa(5), "a")
	tellsFast(t, session, "a")
}
