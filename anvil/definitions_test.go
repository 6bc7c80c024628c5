package anvil

import (
	"slices"
	"strings"
	"testing"

	"anvil/api"
)

// refused tells that a definition is refused, prints nothing and leaves the
// words as they were: one of the name a, one of the name w.
func refused(t *testing.T, text string, why api.Errno) {
	t.Helper()
	session := New()
	says(t, session,
		answer{": a 1 . ; : w 2 . ;", "", api.OK},
		answer{"7 . 8 " + text, "7 ", why},
		answer{"a w", "1 2 ", api.OK},
	)
	holds(t, session)
	if got := session.Words(); !slices.Equal(got, []string{"a", "w"}) {
		t.Errorf("P3: behind %q the words are %q", text, got)
	}
}

func TestNames(t *testing.T) {
	for _, name := range strings.Fields("a z sq abcdefgh zzzzzzzz dupp ii iff exits x j") {
		session := New()
		says(t, session, answer{": " + name + " 1 . ; " + name, "1 ", api.OK})
		if got := session.Words(); !slices.Equal(got, []string{name}) {
			t.Errorf("P4: Words() = %q, want %q alone", got, name)
		}
	}
	bad := "5 -5 abcdefghi A aB a1 1a a-b a. :: ;; : ; { } if else then begin until while repeat do loop i recurse exit"
	for _, name := range strings.Fields(bad) {
		refused(t, ": "+name+" 1 . ;", api.ErrForm)
		refused(t, ": "+name, api.ErrForm)
		refused(t, ": "+name+" nope", api.ErrForm)
	}
	for word := range modelTakes {
		refused(t, ": "+word+" 1 . ;", api.ErrForm)
	}
}

func TestFormsThatMayNotBe(t *testing.T) {
	for _, body := range []string{
		"", "1", "1 2 +", "if 1", "{", "{ 1", "{ ;", "{ : b ;", "if { } ", "begin 1 while 2", "do i",
		": b ;", "1 : ;", "if : then ;",
		"then ;", "else ;", "until ;", "while ;", "repeat ;", "loop ;", "} ;",
		"if ;", "if else ;", "begin ;", "begin while ;", "do ;", "{ } } ;",
		"if else else then ;", "if then then ;", "if then else ;", "if until ;", "if loop ;", "if while ;", "if repeat ;",
		"begin then ;", "begin else ;", "begin loop ;", "begin repeat ;", "begin until until ;",
		"begin while until ;", "begin while while repeat ;", "begin while repeat repeat ;", "begin while then ;",
		"do then ;", "do until ;", "do while ;", "do repeat ;", "do else loop ;", "do loop loop ;",
		"if begin then until ;", "if do then loop ;", "begin if until then ;", "begin do until loop ;", "begin do while loop repeat ;",
		"begin if while then repeat ;", "do if loop then ;", "do begin loop until ;",
		"i ;", "do loop i ;", "if i then ;", "begin i until ;", "do loop begin i until ;", "{ do } i ;",
		"{ { } ;", "{ { } } ;", "{ 1 { 2 } ;", "{ : b { } ; } ;", "if } then ;",
	} {
		refused(t, ": a "+body, api.ErrForm)
		refused(t, ": b "+body, api.ErrForm)
	}
	refused(t, ":", api.ErrForm)
}

func TestTokensThatAreNoItems(t *testing.T) {
	for _, token := range strings.Fields("nope b W 1.5 1000000000000000000 --1 a1 ( :: ;; {} dupp abcdefghi") {
		for _, around := range []string{"@ ;", "@", "1 @ ;", "if @ then ;", "0 if 1 else @ then ;", "begin @ until ;", "do @ loop ;", "exit @ ;", "{ } @ ;"} {
			refused(t, ": a "+strings.Replace(around, "@", token, 1), api.ErrWord)
		}
	}
	// The name that is being defined is no word yet, the old one of a name is.
	refused(t, ": b b ;", api.ErrWord)
	refused(t, ": b { : b ; } b ;", api.ErrWord)
	eachSays(t, answer{": b ; : b b ;", "", api.OK})
}

func TestFirstWrongTokenTells(t *testing.T) {
	for text, why := range map[string]api.Errno{
		": a nope if":             api.ErrWord,
		": a nope then ;":         api.ErrWord,
		": a then nope ;":         api.ErrForm,
		": a if nope":             api.ErrWord,
		": a if nope ;":           api.ErrWord,
		": a if ; nope":           api.ErrForm,
		": a i nope ;":            api.ErrForm,
		": a nope i ;":            api.ErrWord,
		": a { nope ; } then ;":   api.ErrForm,
		": a { nope":              api.ErrForm,
		": a { nope { } ;":        api.ErrForm,
		": a 1 : nope ;":          api.ErrForm,
		": 5 nope ;":              api.ErrForm,
		": a 1 . ; nope : a if ;": api.ErrWord,
		": a 1 . ; if nope":       api.ErrForm,
		": a nope ; : 5 ; 1 0 /":  api.ErrWord,
		": a 1 . ; : a 2 . if ;":  api.ErrForm,
		": a 1 . ; + : a then ;":  api.ErrUnder,
	} {
		refused(t, text, why)
	}
}

// fill defines words up to a number of them; their names are those of manyNames.
func fill(t *testing.T, session *Session, count int) {
	t.Helper()
	for _, name := range manyNames()[:count] {
		says(t, session, answer{": " + name + " 3 . ;", "", api.OK})
	}
}

func TestWordLimit(t *testing.T) {
	session := New()
	fill(t, session, api.MaxWords-1)
	says(t, session,
		answer{": last { : more ; } ; : more ;", "", api.ErrFull},
		answer{": more ;", "", api.ErrFull},
		answer{": more nope", "", api.ErrFull},
		answer{": more if ;", "", api.ErrFull},
		answer{": more", "", api.ErrFull},
		answer{": 5 ;", "", api.ErrForm},
		answer{": abcdefghi ;", "", api.ErrForm},
		answer{": dup ;", "", api.ErrForm},
		answer{":", "", api.ErrForm},
		answer{"more", "", api.ErrWord},
		answer{"1 . last 2 .", "1 ", api.ErrFull},
		// A word that is defined may be defined again.
		answer{": wa 5 . ; wa", "5 ", api.OK},
		answer{": wa nope ;", "", api.ErrWord},
		answer{": last { : wb 6 . ; } ; last wb", "6 ", api.OK},
	)
	if got := len(session.Words()); got != api.MaxWords {
		t.Errorf("P4: there are %d words", got)
	}
	session = New()
	fill(t, session, api.MaxWords-2)
	says(t, session, answer{": one ; : two ; : three ;", "", api.ErrFull})
	if got := session.Words(); len(got) != api.MaxWords || got[0] != "one" || got[1] != "two" {
		t.Errorf("P4: Words() = %q", got)
	}
}

func TestWhatStaysBehindAnError(t *testing.T) {
	for text, why := range map[string]api.Errno{
		"{ nope }": api.ErrWord, "{ if }": api.ErrForm, "drop drop drop drop": api.ErrUnder, "0 /": api.ErrZero, "99 @": api.ErrCell,
		"begin 0 until": api.ErrFuel, "recurse": api.ErrDeep, "40 0 do i loop": api.ErrOver, "400 0 do 1 emit loop": api.ErrOut,
	} {
		session := New()
		says(t, session, answer{": old 3 . ; 1 2", "", api.OK})
		_, got := session.Line(": a 5 1 ! { : old 4 . ; : new 6 . ; } " + text + " 9 1 ! { : old 9 . ; } ; a 9 2 ! : old ; : later ;")
		if got != why {
			t.Errorf("P3: %q in a word is %d, want %d", text, got, why)
		}
		holds(t, session)
		says(t, session, answer{"1 @ . 2 @ . old new", "5 0 4 6 ", api.OK})
		if names := session.Words(); !slices.Equal(names, []string{"a", "new", "old"}) {
			t.Errorf("P3: behind %q the words are %q", text, names)
		}
	}
}

func TestNoLineDefinesNothing(t *testing.T) {
	session := New()
	says(t, session,
		answer{": a 1 . ;", "", api.OK},
		answer{": a 2 . ; : b ; \n", "", api.ErrText},
		answer{": a 2 . ; : b ; " + strings.Repeat(" ", api.MaxLine), "", api.ErrText},
		answer{"a", "1 ", api.OK},
		answer{"b", "", api.ErrWord},
	)
}

func TestADefinitionIsOfOneLine(t *testing.T) {
	session := New()
	says(t, session,
		answer{": a 1 .", "", api.ErrForm},
		answer{"2 . ;", "2 ", api.ErrForm},
		answer{"a", "", api.ErrWord},
		answer{":a 1 . ;", "", api.ErrWord},
		answer{": a 1 . ;a", "", api.ErrWord},
		answer{":   a   1   .   ;   a", "1 ", api.OK},
	)
}
