package body

import (
	"reflect"
	"strings"
	"testing"

	"anvil/api"
	"anvil/token"
)

// known is the test's only word.
func known(name string) bool { return name == "w" }

func one() Item { return Item{Kind: Number, Number: 1} }

func two() Item { return Item{Kind: Number, Number: 2} }

func TestItems(t *testing.T) {
	for text, want := range map[string][]Item{
		";":                          nil,
		"-7 dup w ;":                 {{Kind: Number, Number: -7}, {Kind: Plain, Plain: token.Dup}, {Kind: Call, Name: "w"}},
		"if then ;":                  {{Kind: If}},
		"if 1 then 2 ;":              {{Kind: If, First: []Item{one()}}, two()},
		"if 1 else 2 then ;":         {{Kind: If, First: []Item{one()}, Second: []Item{two()}}},
		"if else 1 2 then ;":         {{Kind: If, Second: []Item{one(), two()}}},
		"begin 1 until ;":            {{Kind: Until, First: []Item{one()}}},
		"begin 1 while 2 repeat ;":   {{Kind: While, First: []Item{one()}, Second: []Item{two()}}},
		"do i loop ;":                {{Kind: Do, First: []Item{{Kind: Index}}}},
		"do do loop i loop ;":        {{Kind: Do, First: []Item{{Kind: Do}, {Kind: Index}}}},
		"recurse exit ;":             {{Kind: Recurse}, {Kind: Exit}},
		"{ } ;":                      {{Kind: Braces}},
		"{ : x if ; nope ( } 1 ;":    {{Kind: Braces, Tokens: strings.Fields(": x if ; nope (")}, one()},
		"if if 1 then else 2 then ;": {{Kind: If, First: []Item{{Kind: If, First: []Item{one()}}}, Second: []Item{two()}}},
	} {
		items, rest, why := Read(strings.Fields(text+" 9 ; nope"), known)
		if why != api.OK || !reflect.DeepEqual(items, want) {
			t.Errorf("P3: Read(%q) = %v, %d, want %v", text, items, why, want)
		}
		if strings.Join(rest, " ") != "9 ; nope" {
			t.Errorf("P3: Read(%q) left %q", text, rest)
		}
	}
}

func TestNothingIsReadBehindAnError(t *testing.T) {
	for _, text := range []string{"", "1", "x ;", "then ;", "if 1 ;", "{ 1 ;", "do x loop ;"} {
		items, rest, why := Read(strings.Fields(text), known)
		if items != nil || rest != nil || why == api.OK {
			t.Errorf("P3: Read(%q) = %v, %q, %d", text, items, rest, why)
		}
	}
}

// judge tells by one token more which error there is, if any; what is open is
// told by a letter each.
func judge(open string, text string) (string, api.Errno) {
	if strings.HasSuffix(open, "{") {
		switch text {
		case "{":
			return open, api.ErrForm
		case "}":
			return strings.TrimSuffix(open, "{"), api.OK
		}
		return open, api.OK
	}
	for _, rule := range []struct{ text, from, to string }{
		{"if", "", "I"}, {"else", "I", "E"}, {"then", "I", ""}, {"then", "E", ""},
		{"begin", "", "B"}, {"until", "B", ""}, {"while", "B", "W"}, {"repeat", "W", ""},
		{"do", "", "D"}, {"loop", "D", ""}, {"{", "", "{"},
		{"1", "", ""}, {"dup", "", ""}, {"w", "", ""}, {"recurse", "", ""}, {"exit", "", ""},
	} {
		if rule.text == text && strings.HasSuffix(open, rule.from) {
			return strings.TrimSuffix(open, rule.from) + rule.to, api.OK
		}
	}
	switch {
	case text == "i" && strings.Contains(open, "D"):
		return open, api.OK
	case text == "x":
		return open, api.ErrWord
	}
	return open, api.ErrForm
}

// judgeAll tells what reading these tokens is to answer.
func judgeAll(tokens []string) api.Errno {
	open := ""
	for _, text := range tokens {
		if text == ";" && open == "" {
			return api.OK
		}
		next, why := judge(open, text)
		if why != api.OK {
			return why
		}
		open = next
	}
	return api.ErrForm
}

// everyText calls visit with all texts of so many tokens of these.
func everyText(alphabet []string, length int, begun []string, visit func(tokens []string)) {
	if length == 0 {
		visit(begun)
		return
	}
	for _, text := range alphabet {
		everyText(alphabet, length-1, append(begun[:len(begun):len(begun)], text), visit)
	}
}

func TestEveryShortBody(t *testing.T) {
	all := strings.Fields("1 dup w x if else then begin until while repeat do loop i recurse exit { } : ;")
	bound := strings.Fields("if else then begin until while repeat do loop i { }")
	visit := func(tokens []string) {
		if _, _, why := Read(tokens, known); why != judgeAll(tokens) {
			t.Fatalf("P3: Read(%q) is %d, want %d", tokens, why, judgeAll(tokens))
		}
		closed := append(tokens[:len(tokens):len(tokens)], ";")
		if _, _, why := Read(closed, known); why != judgeAll(closed) {
			t.Fatalf("P3: Read(%q) is %d, want %d", closed, why, judgeAll(closed))
		}
	}
	for length := range 4 {
		everyText(all, length, nil, visit)
	}
	everyText(bound, 5, nil, visit)
}
