package machine

import (
	"strconv"

	"anvil/api"
	"anvil/token"
)

const (
	yes = -1
	no  = 0

	firstPrinted = 32
	printedBytes = 95
)

// Plain makes the action of a plain word; it is nil for all other kinds.
func Plain(kind token.Kind) Action {
	switch kind {
	case token.Add:
		return compute(func(a, b int64) int64 { return a + b })
	case token.Subtract:
		return compute(func(a, b int64) int64 { return a - b })
	case token.Multiply:
		return compute(func(a, b int64) int64 { return a * b })
	case token.Divide:
		return computeByDivisor(quotient)
	case token.Modulo:
		return computeByDivisor(remainder)
	case token.Equal:
		return compute(func(a, b int64) int64 { return truth(a == b) })
	case token.Less:
		return compute(func(a, b int64) int64 { return truth(a < b) })
	case token.Dup:
		return rearrange(1, 0, 0)
	case token.Drop:
		return rearrange(1)
	case token.Swap:
		return rearrange(2, 1, 0)
	case token.Over:
		return rearrange(2, 0, 1, 0)
	case token.Rot:
		return rearrange(3, 1, 2, 0)
	case token.Print:
		return show(digits)
	case token.Emit:
		return show(character)
	case token.Fetch:
		return fetch
	case token.Store:
		return store
	}
	return nil
}

// compute makes the action that takes a b and leaves what f makes of them.
func compute(f func(a, b int64) int64) Action {
	return func(r *Run) api.Errno {
		taken, why := r.take(2)
		if why != api.OK {
			return why
		}
		return r.put(f(taken[0], taken[1]))
	}
}

// computeByDivisor is compute for an f that has no answer if b is 0.
func computeByDivisor(f func(a, b int64) int64) Action {
	return func(r *Run) api.Errno {
		taken, why := r.take(2)
		if why != api.OK {
			return why
		}
		if taken[1] == 0 {
			return api.ErrZero
		}
		return r.put(f(taken[0], taken[1]))
	}
}

// quotient rounds down, where Go's own division rounds towards 0.
func quotient(a, b int64) int64 {
	q := a / b
	if a%b != 0 && (a < 0) != (b < 0) {
		q--
	}
	return q
}

func remainder(a, b int64) int64 {
	return a - b*quotient(a, b)
}

func truth(so bool) int64 {
	if so {
		return yes
	}
	return no
}

// rearrange makes the action that takes some numbers and leaves those of them
// at the given places; place 0 is the lowest one.
func rearrange(count int, places ...int) Action {
	return func(r *Run) api.Errno {
		taken, why := r.take(count)
		if why != api.OK {
			return why
		}
		var left []int64
		for _, place := range places {
			left = append(left, taken[place])
		}
		return r.put(left...)
	}
}

// show makes the action that takes a number and prints what form makes of it.
func show(form func(number int64) []byte) Action {
	return func(r *Run) api.Errno {
		taken, why := r.take(1)
		if why != api.OK {
			return why
		}
		return r.print(form(taken[0]))
	}
}

func digits(number int64) []byte {
	return append(strconv.AppendInt(nil, number, 10), ' ')
}

func character(number int64) []byte {
	return []byte{byte(firstPrinted + remainder(number, printedBytes))}
}

func fetch(r *Run) api.Errno {
	taken, why := r.take(1)
	if why != api.OK {
		return why
	}
	if !isCell(taken[0]) {
		return api.ErrCell
	}
	return r.put(r.state.cells[taken[0]])
}

func store(r *Run) api.Errno {
	taken, why := r.take(2)
	if why != api.OK {
		return why
	}
	if !isCell(taken[1]) {
		return api.ErrCell
	}
	r.state.cells[taken[1]] = taken[0]
	return api.OK
}

func isCell(number int64) bool {
	return 0 <= number && number < api.Cells
}
