// Package token takes a line apart and tells of what kind each token is.
package token

import (
	"strconv"
	"strings"

	"anvil/api"
)

const (
	firstByte = 32
	lastByte  = 126
	maxDigits = 18 // so every number fits into 64 bits
)

// Valid tells whether a text may be a line.
func Valid(text string) bool {
	if len(text) > api.MaxLine {
		return false
	}
	for i := range len(text) {
		if text[i] < firstByte || text[i] > lastByte {
			return false
		}
	}
	return true
}

// Split gives the tokens of a valid line.
func Split(text string) []string {
	// A valid line has no white space but the blank. Definitions keep some of
	// its tokens, but the text that was handed in is not to be kept.
	return strings.Fields(strings.Clone(text))
}

// KindOf tells of what kind a token is.
func KindOf(token string) Kind {
	if isNumber(token) {
		return Number
	}
	for at, spelling := range spellings {
		if token == spelling {
			return Kind(at)
		}
	}
	return Other
}

// Value gives the number that a token of the kind Number stands for.
func Value(token string) int64 {
	value, _ := strconv.ParseInt(token, 10, 64)
	return value
}

// IsName tells whether a token may be the name of a word.
func IsName(token string) bool {
	if len(token) < 1 || len(token) > api.MaxName || KindOf(token) != Other {
		return false
	}
	for i := range len(token) {
		if token[i] < 'a' || token[i] > 'z' {
			return false
		}
	}
	return true
}

func isNumber(token string) bool {
	digits := strings.TrimPrefix(token, "-")
	if len(digits) < 1 || len(digits) > maxDigits {
		return false
	}
	for i := range len(digits) {
		if digits[i] < '0' || digits[i] > '9' {
			return false
		}
	}
	return true
}
