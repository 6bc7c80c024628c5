package machine

import (
	"testing"

	"anvil/api"
	"anvil/token"
)

// burn makes so many steps that leave the stack as it was.
func burn(t *testing.T, run *Run, steps int) {
	t.Helper()
	for done := range steps {
		act := Lay(1)
		if done%2 == 1 {
			act = Plain(token.Drop)
		}
		if why := run.Step(act); why != api.OK {
			t.Fatalf("P3: step %d: %d", done+1, why)
		}
	}
}

func TestFuel(t *testing.T) {
	var state State
	run := state.Start()
	burn(t, run, api.MaxFuel)
	for range 3 {
		if why := run.Step(Lay(1)); why != api.ErrFuel {
			t.Errorf("P3: a step too many: %d", why)
		}
	}
	if len(state.stack) != 0 {
		t.Errorf("P3: a step without fuel does nothing: %d", state.stack)
	}
}

func TestFuelGoesAheadOfOtherErrors(t *testing.T) {
	for _, c := range []struct {
		kind  token.Kind
		stack []int64
		last  api.Errno
	}{
		{token.Add, nil, api.ErrUnder},
		{token.Print, nil, api.ErrUnder},
		{token.Divide, []int64{1, 0}, api.ErrZero},
		{token.Modulo, []int64{1, 0}, api.ErrZero},
		{token.Fetch, []int64{api.Cells}, api.ErrCell},
		{token.Store, []int64{1, -1}, api.ErrCell},
		{token.Dup, make([]int64, api.MaxStack), api.ErrOver},
	} {
		for spare, want := range []api.Errno{api.ErrFuel, c.last} {
			var state State
			run := state.Start()
			burn(t, run, api.MaxFuel-spare)
			state.stack = c.stack
			if why := run.Step(Plain(c.kind)); why != want {
				t.Errorf("P3: kind %d with fuel for %d steps: %d, want %d", c.kind, spare, why, want)
			}
		}
	}
}

func TestEveryLineHasItsOwnFuel(t *testing.T) {
	var state State
	for range 3 {
		burn(t, state.Start(), api.MaxFuel)
	}
}

func TestPlainKnowsThePlainWordsAlone(t *testing.T) {
	for kind := token.Other; kind <= token.Exit+1; kind++ {
		if got := Plain(kind) != nil; got != kind.Plain() {
			t.Errorf("P3: Plain(%d) is there: %v", kind, got)
		}
	}
}

func TestDepth(t *testing.T) {
	for depth := range api.MaxDepth + 3 {
		reached := 0
		act := Nothing
		for range depth {
			inner := act
			act = Deeper(func(r *Run) api.Errno {
				reached++
				return inner(r)
			})
		}
		want := api.OK
		if depth > api.MaxDepth {
			want = api.ErrDeep
		}
		var state State
		run := state.Start()
		for range 2 {
			reached = 0
			if why := act(run); why != want || reached != min(depth, api.MaxDepth) {
				t.Errorf("P3: at depth %d: %d, %d times deeper", depth, why, reached)
			}
		}
	}
}

func TestTakingSteps(t *testing.T) {
	for spare := range 2 {
		var state State
		run := state.Start()
		burn(t, run, api.MaxFuel-spare)
		want := []api.Errno{api.ErrFuel, api.ErrUnder}[spare]
		state.stack = nil
		if so, why := run.Ask(); so || why != want {
			t.Errorf("P3: Ask with fuel for %d steps: %v, %d", spare, so, why)
		}
		run = state.Start()
		burn(t, run, api.MaxFuel-spare)
		state.stack = []int64{1}
		if end, begin, why := run.Bounds(); end != 0 || begin != 0 || why != want {
			t.Errorf("P3: Bounds with fuel for %d steps: %d, %d, %d", spare, end, begin, why)
		}
	}
	state := State{stack: []int64{4, 7, 3, -1, 0}}
	run := state.Start()
	if so, why := run.Ask(); so || why != api.OK {
		t.Errorf("P3: Ask at 0: %v, %d", so, why)
	}
	if so, why := run.Ask(); !so || why != api.OK {
		t.Errorf("P3: Ask at -1: %v, %d", so, why)
	}
	if end, begin, why := run.Bounds(); end != 7 || begin != 3 || why != api.OK {
		t.Errorf("P3: Bounds: %d, %d, %d", end, begin, why)
	}
	if len(state.stack) != 1 {
		t.Errorf("P3: the stack is %d", state.stack)
	}
}
