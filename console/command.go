package console

import "mortmain/code"

// command is what a first word asks for; an early one needs no engine.
type command struct {
	takes func(numbers int) bool
	run   func(c console, numbers []int) (console, string)
	early bool
}

func commands() map[string]command {
	return map[string]command{
		"prog":    {takes: func(n int) bool { return n%4 == 1 }, run: console.program, early: true},
		"heap":    {takes: exactly(3), run: console.heap, early: true},
		"new":     operation(code.New, 3),
		"copy":    operation(code.Copy, 2),
		"drop":    operation(code.Drop, 1),
		"load":    operation(code.Load, 3),
		"store":   operation(code.Store, 3),
		"weak":    operation(code.Weak, 3),
		"up":      operation(code.Up, 2),
		"pair":    operation(code.Pair, 2),
		"get":     operation(code.Get, 2),
		"same":    operation(code.Same, 2),
		"collect": operation(code.Collect, 0),
		"drain":   operation(code.Drain, 1),
		"lives":   {takes: exactly(0), run: console.lives},
		"roots":   {takes: exactly(0), run: console.roots},
		"tally":   {takes: exactly(0), run: console.tally},
	}
}

func operation(kind, numbers int) command {
	return command{takes: exactly(numbers), run: func(c console, l []int) (console, string) { return c.row(kind, l) }}
}

func exactly(want int) func(int) bool { return func(n int) bool { return n == want } }
