package token

// Kind is what a token is.
type Kind int

const (
	Other Kind = iota // the name of a word, or nothing that is known
	Number

	// The plain words.
	Add
	Subtract
	Multiply
	Divide
	Modulo
	Equal
	Less
	Dup
	Drop
	Swap
	Over
	Rot
	Print
	Emit
	Fetch
	Store

	// What makes up definitions.
	Colon
	Semicolon
	Open
	Close
	If
	Else
	Then
	Begin
	Until
	While
	Repeat
	Do
	Loop
	Index
	Recurse
	Exit
)

const (
	firstPlain = Add
	lastPlain  = Store
)

// Kinds without a spelling of their own have an empty one, and no token is
// empty.
var spellings = [...]string{
	Add:       "+",
	Subtract:  "-",
	Multiply:  "*",
	Divide:    "/",
	Modulo:    "mod",
	Equal:     "=",
	Less:      "<",
	Dup:       "dup",
	Drop:      "drop",
	Swap:      "swap",
	Over:      "over",
	Rot:       "rot",
	Print:     ".",
	Emit:      "emit",
	Fetch:     "@",
	Store:     "!",
	Colon:     ":",
	Semicolon: ";",
	Open:      "{",
	Close:     "}",
	If:        "if",
	Else:      "else",
	Then:      "then",
	Begin:     "begin",
	Until:     "until",
	While:     "while",
	Repeat:    "repeat",
	Do:        "do",
	Loop:      "loop",
	Index:     "i",
	Recurse:   "recurse",
	Exit:      "exit",
}

// Plain tells whether tokens of this kind are plain words.
func (k Kind) Plain() bool {
	return firstPlain <= k && k <= lastPlain
}
