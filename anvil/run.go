package anvil

import (
	"anvil/api"
	"anvil/machine"
	"anvil/token"
)

// runTokens goes through tokens in their order, up to the first error.
func runTokens(run *machine.Run, tokens []string) api.Errno {
	for _, text := range tokens {
		if why := runToken(run, text); why != api.OK {
			return why
		}
	}
	return api.OK
}

func runToken(run *machine.Run, text string) api.Errno {
	kind := token.KindOf(text)
	switch {
	case kind == token.Number:
		return run.Step(machine.Lay(token.Value(text)))
	case kind.Plain():
		return run.Step(machine.Plain(kind))
	case kind == token.Other:
		return api.ErrWord
	}
	// What makes up a definition may not stand alone. Definitions themselves
	// are not read yet, so a colon is refused in the same way.
	return api.ErrForm
}
