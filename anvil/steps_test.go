package anvil

import (
	"strconv"
	"strings"
	"testing"

	"anvil/api"
)

// spender is a word that makes many steps: two for its numbers, the call, the
// do, and one for each round.
const spender = ": spend do loop ; "

// spend is a text that makes so many steps.
func spend(steps int) string {
	return strconv.Itoa(steps-4) + " 0 spend "
}

// makes tells how many steps a text makes behind some definitions, by what is
// left for it: with one step less it lacks fuel.
func makes(t *testing.T, definitions, text string, steps int) {
	t.Helper()
	for spare, want := range map[int]api.Errno{0: api.OK, 1: api.OK, -1: api.ErrFuel} {
		for _, session := range tunedSessions() {
			says(t, session, answer{spender + definitions, "", api.OK})
			line := spend(api.MaxFuel-steps-spare) + text
			if _, why := session.Line(line); why != want {
				t.Errorf("P3: Line(%q) behind %q is %d, want %d", line, definitions, why, want)
			}
		}
	}
}

func TestEachStepCounts(t *testing.T) {
	makes(t, "", "1", 1)
	makes(t, "", "1 drop", 2)
	makes(t, "", ": a ;", 1)
	makes(t, "", ": a 1 2 3 if then begin until { } ;", 1)
	makes(t, ": a ;", "a", 1)
	makes(t, ": a 1 drop ;", "a", 3)
	makes(t, ": a exit 1 ;", "a", 2)
	makes(t, ": a if 1 . else 2 . drop then ;", "1 a", 5)
	makes(t, ": a if 1 . else 2 . 3 . then ;", "0 a", 7)
	makes(t, ": a begin until ;", "1 a", 3)
	makes(t, ": a begin until ;", "1 0 0 a", 7)
	makes(t, ": a begin while repeat ;", "0 1 1 a", 7)
	makes(t, ": a do loop ;", "0 0 a", 4)
	makes(t, ": a do loop ;", "3 0 a", 7)
	makes(t, ": a do i drop loop ;", "3 0 a", 13)
	makes(t, ": a { } ;", "a", 2)
	makes(t, ": a { 1 drop } ;", "a", 4)
	makes(t, ": a { : b 1 2 3 ; } ;", "a", 3)
	makes(t, ": a dup if 1 - recurse then ;", "1 a", 9)
	makes(t, ": b 1 drop ; : a b b ;", "a", 7)
}

func TestStepsOfOneLineAreCountedTogether(t *testing.T) {
	session := New()
	says(t, session,
		answer{spender + spend(api.MaxFuel-1), "", api.OK},
		answer{spend(api.MaxFuel), "", api.OK},
		answer{spend(api.MaxFuel + 1), "", api.ErrFuel},
		answer{spend(1000) + spend(1000), "", api.OK},
		answer{spend(1000) + spend(1000) + "1", "", api.ErrFuel},
		answer{spend(api.MaxFuel), "", api.OK},
	)
}

func TestFuelGoesAheadOfWhatAStepWouldBe(t *testing.T) {
	for _, text := range []string{"+", ".", "@", "if then", "begin until", "begin while repeat", "do loop"} {
		session := New()
		says(t, session,
			answer{spender + ": a " + text + " ;", "", api.OK},
			answer{spend(api.MaxFuel-1) + "a", "", api.ErrFuel},
			answer{spend(api.MaxFuel-2) + "a", "", api.ErrUnder},
		)
	}
	// There is room for two numbers; the third one is the step that is asked.
	high := strings.Repeat("1 ", api.MaxStack-2) + "9 0 a"
	ahead := api.MaxStack - 2 + 7
	session := New()
	says(t, session,
		answer{spender + ": a do i i i loop ; : b recurse ;", "", api.OK},
		answer{spend(api.MaxFuel-ahead) + high, "", api.ErrFuel},
		answer{spend(api.MaxFuel-ahead-1) + high, "", api.ErrOver},
		answer{spend(api.MaxFuel-20) + "b", "", api.ErrFuel},
		answer{spend(api.MaxFuel-21) + "b", "", api.ErrDeep},
	)
}

func TestFuelGoesAheadOfDepth(t *testing.T) {
	// So many steps are made up to the a that is too deep.
	ahead := 2 + 19*5 + 2
	for _, session := range tunedSessions() {
		says(t, session,
			answer{spender + ": a ; : b dup if 1 - recurse else a then ;", "", api.OK},
			answer{spend(api.MaxFuel-ahead) + "19 b", "", api.ErrFuel},
			answer{spend(api.MaxFuel-ahead-1) + "19 b", "", api.ErrDeep},
			answer{spend(api.MaxFuel-ahead) + "19 b", "", api.ErrFuel},
		)
	}
}

func TestWrongTokensNeedNoFuel(t *testing.T) {
	session := New()
	empty := spend(api.MaxFuel)
	says(t, session,
		answer{spender, "", api.OK},
		answer{empty + "nope", "", api.ErrWord},
		answer{empty + "if", "", api.ErrForm},
		answer{empty + ";", "", api.ErrForm},
		answer{empty + ": 5 ;", "", api.ErrForm},
		answer{empty + ": a nope", "", api.ErrWord},
		answer{empty + ": a if ;", "", api.ErrForm},
		answer{empty + ": a", "", api.ErrForm},
		answer{empty + ": a ;", "", api.ErrFuel},
		answer{empty + ": a ; nope", "", api.ErrFuel},
		answer{"a", "", api.ErrWord},
		answer{empty + "1", "", api.ErrFuel},
		answer{empty + "spend", "", api.ErrFuel},
		answer{empty, "", api.OK},
	)
	fill(t, session, api.MaxWords-1)
	says(t, session, answer{empty + ": more ;", "", api.ErrFull})
}

func TestAStepWithoutFuelDoesNothing(t *testing.T) {
	session := New()
	says(t, session,
		answer{spender + ": a 1 . ; 5 3 !", "", api.OK},
		answer{spend(api.MaxFuel) + ": a 2 . ;", "", api.ErrFuel},
		answer{spend(api.MaxFuel-2) + "6 3 !", "", api.ErrFuel},
		answer{"a 3 @ .", "1 5 ", api.OK},
		answer{spend(api.MaxFuel-1) + "1 .", "", api.ErrFuel},
		answer{spend(api.MaxFuel-3) + "6 3 !", "", api.OK},
		answer{"3 @ .", "6 ", api.OK},
	)
}

func TestEndlessWordsEnd(t *testing.T) {
	eachSays(t,
		answer{": a begin 0 until ; a", "", api.ErrFuel},
		answer{": a begin 1 while repeat ; a", "", api.ErrFuel},
		answer{": a do loop ; 999999999999999999 0 a", "", api.ErrFuel},
		answer{": a do 999999999999999999 0 do loop loop ; 999999999999999999 0 a", "", api.ErrFuel},
		answer{": a begin { : b 1 ; } 0 until ; a", "", api.ErrFuel},
		answer{": a recurse recurse ; a", "", api.ErrDeep},
		answer{": a dup 15 < if 1 + dup recurse drop dup recurse drop then ; 0 a", "", api.ErrFuel},
		answer{": a ; : b a ; : a b ; a", "", api.ErrDeep},
		answer{": a { a } ; a", "", api.ErrDeep},
	)
}

func TestDepth(t *testing.T) {
	down := ": a dup if 1 - recurse else drop then ; "
	eachSays(t,
		answer{down + "19 a 1 .", "1 ", api.OK},
		answer{down + "20 a 1 .", "", api.ErrDeep},
		answer{down + "19 a 19 a 19 a 1 .", "1 ", api.OK},
		answer{": a ; : a dup if 1 - a else drop then ; 19 a 1 .", "1 ", api.OK},
		answer{": a ; : a dup if 1 - a else drop then ; 20 a 1 .", "", api.ErrDeep},
		answer{": a { dup } if 1 - recurse else drop then ; 18 a 1 .", "1 ", api.OK},
		answer{": a { dup } if 1 - recurse else drop then ; 19 a 1 .", "", api.ErrDeep},
		answer{": a dup if { 1 - a } else drop then ; 9 a 1 .", "1 ", api.OK},
		answer{": a dup if { 1 - a } else drop then ; 10 a 1 .", "", api.ErrDeep},
		answer{down + ": b a ; 18 b 1 .", "1 ", api.OK},
		answer{down + ": b a ; 19 b 1 .", "", api.ErrDeep},
	)
}

func TestDepthIsGivenBack(t *testing.T) {
	session := New()
	says(t, session,
		answer{": a exit ; : b { a } { a } ; : c 100 0 do a b loop ; c", "", api.OK},
		answer{": d recurse ; d", "", api.ErrDeep},
		answer{"c", "", api.OK},
	)
	// What a call is too deep for, other steps are not.
	says(t, session,
		answer{": e dup if 1 - recurse else 3 0 do i . loop { } then ; 18 e", "0 1 2 ", api.OK},
		answer{"19 e", "0 1 2 ", api.ErrDeep},
	)
}
