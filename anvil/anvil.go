// Package anvil: words that get faster while they run. See DOC.md.
package anvil

import (
	"anvil/api"
	"anvil/machine"
	"anvil/token"
	"anvil/words"
)

// Session runs lines.
type Session struct {
	state machine.State
	book  *words.Book
}

// New makes a session (P3).
func New() *Session { return &Session{book: words.NewBook()} }

// Line runs a line (P3).
func (s *Session) Line(text string) (string, api.Errno) {
	if !token.Valid(text) {
		return "", api.ErrText
	}
	run := s.state.Start()
	why := s.book.Run(run, token.Split(text))
	if why != api.OK {
		s.state.Empty()
	}
	return run.Printed(), why
}

// Stack tells the numbers on the stack (P4).
func (s *Session) Stack() []int { return s.state.Stack() }

// Cell tells what is in a cell (P4).
func (s *Session) Cell(n int) (int, api.Errno) { return s.state.Cell(n) }

// Words tells the names of all words that are defined (P4).
func (s *Session) Words() []string { return s.book.Names() }

// Tune sets when words become fast (P5).
func (s *Session) Tune(hot int, built int) api.Errno { return s.book.Tune(hot, built) }

// Fast tells which words are fast (P5).
func (s *Session) Fast() []string { return s.book.Fast() }
