package token

import (
	"slices"
	"strings"
	"testing"

	"anvil/api"
)

func TestValidAsksEveryByte(t *testing.T) {
	for value := range 256 {
		want := value >= 32 && value <= 126
		one := string([]byte{byte(value)})
		for _, text := range []string{one, one + "1 .", "1 ." + one, "1 " + one + " ."} {
			if got := Valid(text); got != want {
				t.Errorf("P3: Valid(%q) = %v", text, got)
			}
		}
	}
}

func TestValidAsksTheLength(t *testing.T) {
	for _, piece := range []string{" ", "1", "~", "1 "} {
		longest := strings.Repeat(piece, api.MaxLine/len(piece))
		if !Valid("") || !Valid(longest) {
			t.Errorf("P3: %d bytes %q may be", len(longest), piece)
		}
		if Valid(longest + " ") {
			t.Errorf("P3: %d bytes %q may not be", len(longest)+1, piece)
		}
	}
}

func TestSplit(t *testing.T) {
	for text, want := range map[string][]string{
		"":                  nil,
		"    ":              nil,
		"1":                 {"1"},
		"  1  ":             {"1"},
		"1 2":               {"1", "2"},
		" : a   dup*  ;. ":  {":", "a", "dup*", ";."},
		"!\"#$ {|}~ 1+2 -1": {"!\"#$", "{|}~", "1+2", "-1"},
	} {
		if got := Split(text); !slices.Equal(got, want) {
			t.Errorf("P3: Split(%q) = %q", text, got)
		}
	}
}

func TestNumbers(t *testing.T) {
	for text, want := range map[string]int64{
		"0": 0, "-0": 0, "00": 0, "-000": 0, "7": 7, "-7": -7, "007": 7, "10": 10,
		"000000000000000001":  1,
		"-000000000000000001": -1,
		"999999999999999999":  999999999999999999,
		"-999999999999999999": -999999999999999999,
	} {
		if kind := KindOf(text); kind != Number {
			t.Errorf("P3: KindOf(%q) = %d", text, kind)
		}
		if got := Value(text); got != want {
			t.Errorf("P3: Value(%q) = %d", text, got)
		}
	}
}

func TestNoNumbers(t *testing.T) {
	for _, text := range []string{
		"", "--", "--1", "+1", "1-", "1-1", "1+", "1.", ".1", "1e1", "0x1", "1_0", "a1", "1a", "/", ":",
		"0000000000000000000", "0000000000000000001", "1000000000000000000", "-1000000000000000000",
		"9223372036854775807", "99999999999999999999999999",
	} {
		if KindOf(text) == Number {
			t.Errorf("P3: %q is no number", text)
		}
	}
}

func TestKinds(t *testing.T) {
	plain := Split("+ - * / mod = < dup drop swap over rot . emit @ !")
	for at, text := range plain {
		if kind := KindOf(text); kind != firstPlain+Kind(at) || !kind.Plain() {
			t.Errorf("P3: KindOf(%q) = %d", text, kind)
		}
	}
	bound := Split(": ; { } if else then begin until while repeat do loop i recurse exit")
	for at, text := range bound {
		if kind := KindOf(text); kind != Colon+Kind(at) || kind.Plain() {
			t.Errorf("P3: KindOf(%q) = %d", text, kind)
		}
	}
	if len(plain)+len(bound)+int(firstPlain) != len(spellings) {
		t.Errorf("P3: %d spellings", len(spellings))
	}
	for _, text := range Split("x abc I If DUP dupp du mo :: ;; {} ++ .. @@ , > >= <> ' ~ j") {
		if kind := KindOf(text); kind != Other || kind.Plain() {
			t.Errorf("P3: KindOf(%q) = %d", text, kind)
		}
	}
	if Number.Plain() {
		t.Error("P3: a number is no plain word")
	}
}

func TestNames(t *testing.T) {
	for _, text := range Split("a z az zzzzzzzz abcdefgh x sq j dupp du ifs doo loops exi") {
		if !IsName(text) {
			t.Errorf("P3: %q may be a name", text)
		}
	}
	for _, kind := range spellings {
		if IsName(kind) {
			t.Errorf("P3: %q can be no name", kind)
		}
	}
	for _, text := range Split("abcdefghi zzzzzzzzzzzz A aB Ab a1 1a 1 -1 a-b -a a- a_b a. .. :: {a `a a` a~ ~ @a") {
		if IsName(text) {
			t.Errorf("P3: %q can be no name", text)
		}
	}
	for value := range 256 {
		want := value >= 'a' && value <= 'z'
		if got := IsName("q" + string([]byte{byte(value)})); got != want {
			t.Errorf("P3: with the byte %d in it, it is a name: %v", value, got)
		}
	}
}
