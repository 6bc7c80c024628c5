// Package body reads the body of a definition: its tokens become items, or the
// first wrong one of them tells the error.
package body

import "anvil/token"

// Kind is what an item is.
type Kind int

const (
	Number Kind = iota
	Plain
	Call
	If    // First if what it takes is not 0, else Second
	Until // First
	While // First ahead of what it takes, Second behind it
	Do    // First
	Index
	Recurse
	Exit
	Braces
)

// Item is one item of a body. Beside its kind it has what that kind needs,
// and nothing else.
type Item struct {
	Kind          Kind
	Number        int64      // of a Number
	Plain         token.Kind // of a Plain
	Name          string     // of a Call
	Tokens        []string   // of Braces
	First, Second []Item
}
