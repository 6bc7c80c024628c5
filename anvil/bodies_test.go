package anvil

import (
	"strconv"
	"strings"
	"testing"

	"anvil/api"
)

func TestExamplesOfDefinitions(t *testing.T) {
	eachSays(t,
		answer{": sq dup * ; 7 sq .", "49 ", api.OK},
		answer{": n 3 0 do i . loop ; n", "0 1 2 ", api.OK},
		answer{": f dup 2 < if drop 1 else dup 1 - recurse * then ; 5 f .", "120 ", api.OK},
		answer{": a 1 . ; : b a { : a 2 . ; } a ; b b", "1 2 2 2 ", api.OK},
		answer{": b 1 . { : b 2 . ; } 3 . ; b b", "1 3 2 ", api.OK},
		answer{": a if ;", "", api.ErrForm},
		answer{": a x", "", api.ErrWord},
		answer{": a 1", "", api.ErrForm},
		answer{": a recurse ; a", "", api.ErrDeep},
		answer{": a begin 0 until ; a", "", api.ErrFuel},
	)
}

func TestDefiningRunsNothing(t *testing.T) {
	session := New()
	says(t, session,
		answer{": a 1 . 5 0 ! { : b ; } 1 0 / ;", "", api.OK},
		answer{"0 @ .", "0 ", api.OK},
		answer{"b", "", api.ErrWord},
		answer{"a", "1 ", api.ErrZero},
		answer{"0 @ . b", "5 ", api.OK},
	)
	holds(t, session)
}

func TestPlainItems(t *testing.T) {
	eachSays(t,
		answer{": a ; a a", "", api.OK},
		answer{": a 1 -2 . . ; a a", "-2 1 -2 1 ", api.OK},
		answer{": a . + . ; 1 2 3 a", "3 3 ", api.OK},
		answer{": a -999999999999999999 ; a .", "-999999999999999999 ", api.OK},
		answer{": a 1 + ; : b a a ; : c b b ; 0 c c .", "8 ", api.OK},
		answer{": a drop ; 1 a a", "", api.ErrUnder},
		answer{": a 1 . 0 / 2 . ; 1 a", "1 ", api.ErrZero},
	)
}

func TestIf(t *testing.T) {
	eachSays(t,
		answer{": a if 1 . then 2 . ; 1 a 0 a -1 a", "1 2 2 1 2 ", api.OK},
		answer{": a if 1 . else 2 . then 3 . ; 5 a 0 a", "1 3 2 3 ", api.OK},
		answer{": a if else 2 . then ; 5 a 0 a", "2 ", api.OK},
		answer{": a if if 1 . else 2 . then else 3 . then ; 1 1 a 0 1 a 0 a", "1 2 3 ", api.OK},
		answer{": a if 1 else if 2 else 3 then then . ; 1 a 1 0 a 0 0 a", "1 2 3 ", api.OK},
		answer{": a if then ; 7 8 a .", "7 ", api.OK},
		answer{": a 1 . if then ; a", "1 ", api.ErrUnder},
		answer{": a if then ; " + least + "a", "", api.OK},
	)
}

func TestBegin(t *testing.T) {
	eachSays(t,
		answer{": a begin dup . 1 - dup 0 = until . ; 3 a", "3 2 1 0 ", api.OK},
		answer{": a begin dup . until 9 . ; 0 0 1 a", "1 9 ", api.OK},
		answer{": a begin 7 . until ; 5 0 0 a", "7 7 7 ", api.OK},
		answer{": a begin 7 . until ; 0 0 a", "7 7 7 ", api.ErrUnder},
		answer{": a begin until ; 2 1 0 0 a .", "2 ", api.OK},
		answer{": a begin dup while dup . 1 - repeat 9 . ; 3 a .", "3 2 1 9 0 ", api.OK},
		answer{": a begin while 7 . repeat ; 5 0 1 -1 a .", "7 7 5 ", api.OK},
		answer{": a begin 6 . while 7 . repeat ; 0 a", "6 ", api.OK},
		answer{": a begin 6 . while 7 . repeat ; 1 a", "6 7 6 ", api.ErrUnder},
		answer{": a begin while repeat ; 1 1 1 0 a", "", api.OK},
		answer{": a begin begin dup . 1 - dup 2 mod until dup 4 < until ; 9 a .", "9 8 7 6 5 4 3 ", api.OK},
	)
}

func TestDo(t *testing.T) {
	eachSays(t,
		answer{": a do i . loop ; 3 0 a 1 0 a 0 0 a 0 1 a -1 5 a", "0 1 2 0 ", api.OK},
		answer{": a do i . loop ; -1 -4 a 2 -1 a", "-4 -3 -2 -1 0 1 ", api.OK},
		answer{": a do loop ; 9 3 0 a .", "9 ", api.OK},
		answer{": a do 2 0 do i . loop i . loop ; 12 10 a", "0 1 10 0 1 11 ", api.OK},
		answer{": a do i i 2 + i do i . loop . loop ; 6 5 a", "5 6 5 ", api.OK},
		answer{": a do i if i . else 7 . then loop ; 2 0 a", "7 1 ", api.OK},
		answer{": a do i begin dup . 1 - dup i 2 - = until drop loop ; 2 0 a", "0 -1 1 0 ", api.OK},
		answer{": a 0 0 do loop 3 2 do i . loop ; a", "2 ", api.OK},
		answer{": a 1 . do loop ; 1 a", "1 ", api.ErrUnder},
		answer{": a do i loop ; 5 2 a . . .", "4 3 2 ", api.OK},
	)
	// The greatest number ends a do without being passed.
	greatest := least + "1 - "
	eachSays(t,
		answer{": a do i . loop ; " + greatest + greatest + "2 - a", "9223372036854775805 9223372036854775806 ", api.OK},
		answer{": a do i . loop ; " + greatest + "dup a", "", api.OK},
		answer{": a do i . loop ; " + least + greatest + "a", "", api.OK},
		answer{": a do i . exit loop ; " + greatest + least + "a", "-9223372036854775808 ", api.OK},
	)
}

func TestEachRunHasItsOwnIndexes(t *testing.T) {
	eachSays(t,
		answer{": a 2 0 do i . loop ; : b 12 10 do a i . loop ; b", "0 1 10 0 1 11 ", api.OK},
		answer{": a 2 0 do dup if 1 - recurse 1 + then i . loop ; 1 a", "0 1 0 0 1 1 ", api.OK},
		answer{": a 9 5 do exit loop ; : b 2 0 do a i . loop ; b", "0 1 ", api.OK},
		answer{": a 2 0 do { : x 9 7 do i . loop ; x } i . loop ; a", "7 8 0 7 8 1 ", api.OK},
	)
}

func TestExit(t *testing.T) {
	eachSays(t,
		answer{": a 1 . exit 2 . ; a 3 .", "1 3 ", api.OK},
		answer{": a if exit then 2 . ; 1 a 0 a", "2 ", api.OK},
		answer{": a if 1 . else exit then 2 . ; 1 a 0 a", "1 2 ", api.OK},
		answer{": a 5 0 do i . i 2 = if exit then loop 9 . ; a 8 .", "0 1 2 8 ", api.OK},
		answer{": a 2 0 do 2 0 do i . exit loop 8 . loop 9 . ; a", "0 ", api.OK},
		answer{": a begin 1 . exit 0 until 2 . ; a", "1 ", api.OK},
		answer{": a begin exit while 1 . repeat 2 . ; a 3 .", "3 ", api.OK},
		answer{": a begin 1 while 4 . exit repeat 5 . ; a", "4 ", api.OK},
		answer{": a 1 . exit 2 . ; : b a 3 . ; b", "1 3 ", api.OK},
		answer{": a dup . dup if 1 - recurse 7 . exit then 8 . ; 2 a", "2 1 0 8 7 7 ", api.OK},
		answer{": a exit 1 . ; : b { a 2 . } 3 . ; b", "2 3 ", api.OK},
		answer{": a { exit } ; a", "", api.ErrForm},
	)
}

func TestRecurse(t *testing.T) {
	eachSays(t,
		answer{": a dup . dup if 1 - recurse then ; 3 a", "3 2 1 0 ", api.OK},
		// It is the word as it is being defined, not the one of that name.
		answer{": a 1 . ; : a dup . if 0 recurse then ; 1 a", "1 0 ", api.OK},
		answer{": a dup . if { : a 9 . drop ; } 0 recurse then ; 1 a 2 a", "1 0 9 ", api.OK},
		answer{": a { recurse } ; a", "", api.ErrForm},
		answer{": f dup 2 < if else dup 1 - recurse swap 2 - recurse + then ; 10 f .", "55 ", api.OK},
	)
}

func TestCallsRunWhatIsDefinedThen(t *testing.T) {
	eachSays(t,
		answer{": b 2 . ; : c b ; : b 3 . ; c", "3 ", api.OK},
		answer{": a 1 . ; : b a ; : c b ; c : a 2 . ; c : b 3 . ; c", "1 2 3 ", api.OK},
		answer{": a 1 . ; : b a { : a 2 . ; } a ; b a", "1 2 2 ", api.OK},
		// A word defined again calls itself by its name.
		answer{": a ; : a dup if dup . 1 - a else 9 . then ; 2 a", "2 1 9 ", api.OK},
		answer{": a ; : a a ; a", "", api.ErrDeep},
		answer{": a 1 . ; : b a ; : a 5 . { : a 6 . ; } ; b b", "5 6 ", api.OK},
	)
}

func TestWhoRunsGoesOnWithItsBody(t *testing.T) {
	eachSays(t,
		answer{": a 1 . { : a 2 . ; } 3 . ; a a", "1 3 2 ", api.OK},
		answer{": a ; : a 1 . { : a 2 . ; } a 3 . ; a", "1 2 3 ", api.OK},
		answer{": b ; : a 1 . b 2 . ; : b { : a 8 . ; } ; a a", "1 2 8 ", api.OK},
		answer{": a 3 0 do i . { : a 8 . ; } loop ; a a", "0 1 2 8 ", api.OK},
		answer{": a begin dup . { : a 8 . ; } 1 - dup 0 = until ; 2 a a", "2 1 8 ", api.OK},
		answer{": a dup if { : a 8 . ; } 1 - recurse 7 . then 6 . ; 1 a a", "6 7 6 8 ", api.OK},
		answer{": b ; : a b 1 . ; : b { : b 5 . ; } 4 . ; a a", "4 1 5 1 ", api.OK},
	)
}

func TestBraces(t *testing.T) {
	eachSays(t,
		answer{": a { } 4 . ; a", "4 ", api.OK},
		answer{": a { 1 2 + . } ; a a", "3 3 ", api.OK},
		answer{": a { : b 5 ; b . } ; a a b .", "5 5 5 ", api.OK},
		answer{": a { : b 1 . ; : c b b ; c } ; a b", "1 1 1 ", api.OK},
		answer{": a if { 1 . } else { 2 . } then ; 0 a 1 a", "2 1 ", api.OK},
		answer{": a 3 0 do { 7 . } loop ; a", "7 7 7 ", api.OK},
		answer{": a { nope } ; 1 . a 2 .", "1 ", api.ErrWord},
		answer{": a { 1 . } 0 if { nope if ; ( } then ; a", "1 ", api.OK},
		// A word that came later is found.
		answer{": a { b } ; : b 3 . ; a", "3 ", api.OK},
		answer{": a { : b 3 } ; a", "", api.ErrForm},
		answer{": a { : } ; a", "", api.ErrForm},
		answer{": a { : b nope } ; a", "", api.ErrWord},
		answer{": a 1 . 3 0 do { i } loop ; a", "1 ", api.ErrForm},
		answer{": a { 2 . 1 0 / 3 . } 4 . ; 1 . a", "1 2 ", api.ErrZero},
	)
	for _, text := range strings.Fields("; if else then begin until while repeat do loop i recurse exit") {
		eachSays(t,
			answer{": a { 1 . " + text + " x } ; 7 .", "7 ", api.OK},
			answer{": a { 1 . " + text + " x } ; 7 . a 8 .", "7 1 ", api.ErrForm},
		)
	}
}

func TestNothingIsRunBehindAnError(t *testing.T) {
	for text, why := range map[string]api.Errno{
		"if 5 . then":                api.ErrUnder,
		"if 5 . else 6 . then":       api.ErrUnder,
		"begin until":                api.ErrUnder,
		"begin while 5 . repeat":     api.ErrUnder,
		"do 5 . loop":                api.ErrUnder,
		"1 do 5 . loop":              api.ErrUnder,
		"1 if nip 5 . then":          api.ErrUnder,
		"begin nip 5 . 1 until":      api.ErrUnder,
		"begin nip 1 while repeat":   api.ErrUnder,
		"begin 1 while nip repeat":   api.ErrUnder,
		"9 0 do nip 5 . loop":        api.ErrUnder,
		"nip 5 .":                    api.ErrUnder,
		"{ nip 5 . } 6 .":            api.ErrUnder,
		"{ nope 5 . }":               api.ErrWord,
		"{ : b if ; 5 . }":           api.ErrForm,
		"1 0 / 5 .":                  api.ErrZero,
		"99 @ 5 .":                   api.ErrCell,
		"recurse 5 .":                api.ErrDeep,
		"begin 0 until 5 .":          api.ErrFuel,
		"99 0 do i loop 5 .":         api.ErrOver,
		"begin nip exit 0 until 5 .": api.ErrUnder,
	} {
		eachSays(t, answer{": nip swap drop ; : a " + text + " 7 . ; a 8 .", "", why})
	}
}

func TestOutputOfWordsIsLimited(t *testing.T) {
	full := strings.Repeat("a", api.MaxOut)
	session := New()
	says(t, session,
		answer{": a 0 do 65 emit loop ;", "", api.OK},
		answer{strconv.Itoa(api.MaxOut) + " a", full, api.OK},
		answer{strconv.Itoa(api.MaxOut+1) + " a", full, api.ErrOut},
		answer{strconv.Itoa(api.MaxOut-1) + " a 1 .", full[1:], api.ErrOut},
		answer{strconv.Itoa(api.MaxOut-2) + " a 1 .", full[2:] + "1 ", api.OK},
	)
}

func TestWordsAreStackLimited(t *testing.T) {
	session := New()
	says(t, session,
		answer{": a 0 do i loop ;", "", api.OK},
		answer{strconv.Itoa(api.MaxStack) + " a", "", api.OK},
		answer{": b ;", "", api.OK},
		answer{"b drop 1 b dup", "", api.ErrOver},
		answer{strconv.Itoa(api.MaxStack+1) + " a", "", api.ErrOver},
	)
	holds(t, session)
}
