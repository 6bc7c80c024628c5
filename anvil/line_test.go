package anvil

import (
	"strconv"
	"strings"
	"testing"

	"anvil/api"
)

// least leaves the least number, which has too many digits to be written.
const least = "-999999999999999999 9 * -223372036854775817 + "

// answer is what a line is to say.
type answer struct {
	text, out string
	why       api.Errno
}

// says asks one session for its answers, line by line.
func says(t *testing.T, session *Session, answers ...answer) {
	t.Helper()
	for _, a := range answers {
		if out, why := session.Line(a.text); out != a.out || why != a.why {
			t.Errorf("Line(%q) = %q, %d, want %q, %d", a.text, out, why, a.out, a.why)
		}
	}
}

// eachSays asks new sessions for each answer, however they are tuned (P6).
func eachSays(t *testing.T, answers ...answer) {
	t.Helper()
	for _, a := range answers {
		for _, session := range tunedSessions() {
			says(t, session, a)
		}
	}
}

// tunedSessions are new ones; in most of them a word is fast at once.
func tunedSessions() []*Session {
	sessions := []*Session{New()}
	for _, tuning := range [][2]int{{1, 0}, {1, 1}, {1, 2}, {1, 3}, {2, 1}, {2, 3}} {
		session := New()
		session.Tune(tuning[0], tuning[1])
		sessions = append(sessions, session)
	}
	return sessions
}

// holds tells, by lines alone, that a stack is this one, the last on top; it
// is empty behind that.
func holds(t *testing.T, session *Session, numbers ...int) {
	t.Helper()
	want := ""
	for _, number := range numbers {
		want = strconv.Itoa(number) + " " + want
	}
	asked := strings.Repeat(". ", len(numbers)+1)
	says(t, session, answer{asked, want, api.ErrUnder})
}

func TestNewIsEmpty(t *testing.T) {
	session := New()
	if session == nil {
		t.Fatal("P3: New gave nothing")
	}
	for cell := range api.Cells {
		says(t, session, answer{strconv.Itoa(cell) + " @ .", "0 ", api.OK})
	}
	holds(t, session)
}

func TestExamples(t *testing.T) {
	eachSays(t,
		answer{"1 2 + .", "3 ", api.OK},
		answer{"-7 2 / . -7 2 mod .", "-4 1 ", api.OK},
		answer{"+", "", api.ErrUnder},
		answer{"1 0 /", "", api.ErrZero},
		answer{"x", "", api.ErrWord},
		answer{"if", "", api.ErrForm},
		answer{"1 . 2 x 3 .", "1 ", api.ErrWord},
	)
}

func TestBlanks(t *testing.T) {
	eachSays(t,
		answer{"", "", api.OK},
		answer{" ", "", api.OK},
		answer{strings.Repeat(" ", api.MaxLine), "", api.OK},
		answer{"   1    2 +  .   ", "3 ", api.OK},
		answer{"1.", "", api.ErrWord},
		answer{"1 2+ .", "", api.ErrWord},
	)
}

func TestNumbers(t *testing.T) {
	eachSays(t,
		answer{"0 . -0 . 00 . 007 . -007 .", "0 0 0 7 -7 ", api.OK},
		answer{"999999999999999999 .", "999999999999999999 ", api.OK},
		answer{"-999999999999999999 .", "-999999999999999999 ", api.OK},
		answer{"000000000000000012 .", "12 ", api.OK},
		answer{"0000000000000000012 .", "", api.ErrWord},
		answer{"-0000000000000000012 .", "", api.ErrWord},
		answer{"1000000000000000000 .", "", api.ErrWord},
		answer{"--1 .", "", api.ErrWord},
		answer{"+1 .", "", api.ErrWord},
		answer{"1- .", "", api.ErrWord},
		answer{"1a .", "", api.ErrWord},
	)
}

func TestArithmeticWraps(t *testing.T) {
	eachSays(t,
		answer{least + ".", "-9223372036854775808 ", api.OK},
		answer{least + "1 - .", "9223372036854775807 ", api.OK},
		answer{least + "1 - 1 + .", "-9223372036854775808 ", api.OK},
		answer{least + "dup + .", "0 ", api.OK},
		answer{least + "-1 * .", "-9223372036854775808 ", api.OK},
		answer{least + "0 swap - .", "-9223372036854775808 ", api.OK},
		answer{"999999999999999999 dup * .", "-7527149226598858751 ", api.OK},
	)
}

func TestDivisionRoundsDown(t *testing.T) {
	eachSays(t,
		answer{"7 2 / . 7 2 mod .", "3 1 ", api.OK},
		answer{"-7 2 / . -7 2 mod .", "-4 1 ", api.OK},
		answer{"7 -2 / . 7 -2 mod .", "-4 -1 ", api.OK},
		answer{"-7 -2 / . -7 -2 mod .", "3 -1 ", api.OK},
		answer{"6 -2 / . 6 -2 mod .", "-3 0 ", api.OK},
		answer{"-1 100 / . -1 100 mod .", "-1 99 ", api.OK},
		answer{"0 -3 / . 0 -3 mod .", "0 0 ", api.OK},
		answer{least + "-1 / .", "-9223372036854775808 ", api.OK},
		answer{least + "-1 mod .", "0 ", api.OK},
		answer{least + "2 / .", "-4611686018427387904 ", api.OK},
		answer{"1 " + least + "/ . 1 " + least + "mod .", "-1 -9223372036854775807 ", api.OK},
	)
}

func TestComparison(t *testing.T) {
	eachSays(t,
		answer{"1 1 = . 1 2 = . -1 1 = .", "-1 0 0 ", api.OK},
		answer{"1 2 < . 2 1 < . 2 2 < . -2 1 < .", "-1 0 0 -1 ", api.OK},
		answer{least + "1 < . 1 " + least + "< .", "-1 0 ", api.OK},
	)
}

func TestRearranging(t *testing.T) {
	for text, left := range map[string][]int{
		"1 2 3":       {1, 2, 3},
		"1 2 3 dup":   {1, 2, 3, 3},
		"1 2 3 drop":  {1, 2},
		"1 2 3 swap":  {1, 3, 2},
		"1 2 3 over":  {1, 2, 3, 2},
		"9 1 2 3 rot": {9, 2, 3, 1},
	} {
		session := New()
		says(t, session, answer{text, "", api.OK})
		holds(t, session, left...)
	}
}

func TestEmitPrintsEveryByte(t *testing.T) {
	for number := -200; number <= 200; number++ {
		place := ((number % 95) + 95) % 95
		eachSays(t, answer{strconv.Itoa(number) + " emit", string(rune(32 + place)), api.OK})
	}
	// The rest of the least number by 95 is 77, that of the greatest one 17.
	eachSays(t,
		answer{least + "emit", "m", api.OK},
		answer{least + "1 - emit", "1", api.OK},
	)
}

func TestCells(t *testing.T) {
	session := New()
	for cell := range api.Cells {
		text := strconv.Itoa(100+cell) + " " + strconv.Itoa(cell) + " !"
		says(t, session, answer{text, "", api.OK})
	}
	for cell := range api.Cells {
		want := strconv.Itoa(100+cell) + " "
		says(t, session, answer{strconv.Itoa(cell) + " @ .", want, api.OK})
	}
	holds(t, session)
	eachSays(t,
		answer{"-1 @", "", api.ErrCell},
		answer{"16 @", "", api.ErrCell},
		answer{"999999999999999999 @", "", api.ErrCell},
		answer{least + "@", "", api.ErrCell},
		answer{"1 -1 !", "", api.ErrCell},
		answer{"1 16 !", "", api.ErrCell},
		answer{"1 4294967296 !", "", api.ErrCell},
		answer{"1 " + least + "!", "", api.ErrCell},
	)
}

func TestWrongTokens(t *testing.T) {
	bound := "; { } if else then begin until while repeat do loop i recurse exit"
	for _, text := range strings.Fields(bound) {
		eachSays(t,
			answer{text, "", api.ErrForm},
			answer{"7 . 1 " + text + " x", "7 ", api.ErrForm},
		)
	}
	// A definition ends ahead of its end, or has no name.
	eachSays(t,
		answer{":", "", api.ErrForm},
		answer{"7 . 1 :", "7 ", api.ErrForm},
		answer{": dup ;", "", api.ErrForm},
	)
	unknown := "x sq I If DUP dupp :: ;; {} .. ' , > ~ 1x x1 abcdefgh abcdefghi"
	for _, text := range strings.Fields(unknown) {
		eachSays(t,
			answer{text, "", api.ErrWord},
			answer{"7 . 1 " + text + " if", "7 ", api.ErrWord},
		)
	}
}

func TestTakingTooMuch(t *testing.T) {
	for word, count := range modelTakes {
		for there := range count {
			// 99 is no cell and 0 no divisor: too few numbers are told ahead of that.
			eachSays(t,
				answer{strings.Repeat("99 ", there) + word, "", api.ErrUnder},
				answer{strings.Repeat("0 ", there) + word, "", api.ErrUnder},
			)
		}
		if _, why := New().Line(strings.Repeat("1 ", count) + word); why != api.OK {
			t.Errorf("P3: %q finds %d numbers: %d", word, count, why)
		}
	}
}

func TestStackLimit(t *testing.T) {
	full := strings.Repeat("1 ", api.MaxStack)
	eachSays(t,
		answer{full, "", api.OK},
		answer{full + "1", "", api.ErrOver},
		answer{full + "dup", "", api.ErrOver},
		answer{full + "over", "", api.ErrOver},
		answer{full + "drop dup drop over", "", api.OK},
		answer{full + "swap rot 1", "", api.ErrOver},
		answer{full + "@ swap rot .", "1 ", api.OK},
		answer{full + "x", "", api.ErrWord},
	)
	session := New()
	says(t, session,
		answer{full, "", api.OK},
		answer{"", "", api.OK},
		answer{"5 .", "", api.ErrOver},
	)
	holds(t, session)
}

func TestPrintLimit(t *testing.T) {
	// The least number and its blank are 21 bytes: 14 times that is 294.
	long := least + strings.Repeat("dup . ", 14)
	out := strings.Repeat("-9223372036854775808 ", 14)
	eachSays(t,
		answer{long + "12345 .", out + "12345 ", api.OK},
		answer{long + "12345 . drop .", out + "12345 ", api.ErrUnder},
		answer{long + "12345 . emit", out + "12345 ", api.ErrOut},
		answer{long + "123456 .", out, api.ErrOut},
		answer{long + "1234 . 0 emit", out + "1234  ", api.OK},
		answer{long + "1234 . 1 .", out + "1234 ", api.ErrOut},
		answer{long + ".", out, api.ErrOut},
	)
	session := New()
	says(t, session,
		answer{long + "12345 .", out + "12345 ", api.OK},
		answer{long + "12345 .", out + "12345 ", api.OK},
		answer{". . 7 .", "-9223372036854775808 -9223372036854775808 7 ", api.OK},
	)
}

func TestNoLine(t *testing.T) {
	session := New()
	says(t, session, answer{"5 6 7 3 !", "", api.OK})
	for _, text := range []string{
		strings.Repeat(" ", api.MaxLine+1),
		strings.Repeat("1 . ", api.MaxLine/4) + " ",
		strings.Repeat("~", 1<<16),
		strings.Repeat("\x00", api.MaxLine+1),
		"1 . 8 3 ! \n", "\t1 .", "1 . drop\x1f", "1 . \x7f", "1 . \x80", "1 . \xff", "1 . ä", "+ . x \x00",
	} {
		says(t, session, answer{text, "", api.ErrText})
	}
	says(t, session, answer{"3 @ .", "7 ", api.OK})
	holds(t, session, 5, 6)
}

func TestLongestLine(t *testing.T) {
	text := strings.Repeat("1 drop ", 57)
	text += strings.Repeat(" ", api.MaxLine-len(text)-1)
	eachSays(t,
		answer{text + " ", "", api.OK},
		answer{text + "7", "", api.OK},
		answer{text + ".", "", api.ErrUnder},
		answer{text + "x", "", api.ErrWord},
		answer{text + "x ", "", api.ErrText},
	)
}

func TestLinesGoOnWithWhatIsThere(t *testing.T) {
	session := New()
	says(t, session,
		answer{"1 2", "", api.OK},
		answer{"3 9 4 !", "", api.OK},
		answer{"+ .", "5 ", api.OK},
		answer{"4 @ .", "9 ", api.OK},
	)
	holds(t, session, 1)
}

func TestErrorsEmptyTheStack(t *testing.T) {
	for text, why := range map[string]api.Errno{
		"x": api.ErrWord, "if": api.ErrForm, "rot rot rot drop drop drop drop": api.ErrUnder, "0 /": api.ErrZero,
		"99 @": api.ErrCell, strings.Repeat("1 ", api.MaxStack): api.ErrOver,
		least + strings.Repeat("dup . ", 15): api.ErrOut,
	} {
		session := New()
		says(t, session, answer{"1 2 3", "", api.OK})
		if _, got := session.Line("8 2 ! " + text + " 9 2 ! 5 ."); got != why {
			t.Errorf("P3: %q behind 1 2 3: %d, want %d", text, got, why)
		}
		says(t, session, answer{"2 @ .", "8 ", api.OK})
		holds(t, session)
	}
}

func TestManyLinesHaveFuel(t *testing.T) {
	session := New()
	text := strings.Repeat("1 . ", api.MaxLine/4)
	want := strings.Repeat("1 ", api.MaxLine/4)
	for range api.MaxFuel / 50 {
		says(t, session, answer{text, want, api.OK})
	}
}
