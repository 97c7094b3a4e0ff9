package drain

import (
	"math"
	"reflect"
	"slices"
	"testing"

	"mortmain/api"
	"mortmain/code"
	"mortmain/hold"
	"mortmain/machine"
	"mortmain/settle"
	"mortmain/store"
	"mortmain/task"
)

type op = code.Op

func did(t *testing.T, x hold.Heap, l ...op) hold.Heap {
	t.Helper()
	for _, o := range l {
		var e api.Errno
		if x, _, e = machine.Do(x, o); e != api.OK {
			t.Fatal(o, e)
		}
	}
	return x
}

// dropped makes objects with these programs and drops them: each waits for its program.
func dropped(t *testing.T, progs ...int) hold.Heap {
	t.Helper()
	x := hold.New(4, 9, 2)
	for _, prog := range progs {
		x = did(t, x, op{Kind: code.New, A: 0, B: 1, C: prog})
	}
	return did(t, x, op{Kind: code.Drop, A: 0})
}

var programs = [][]op{
	{},
	{{Kind: code.Copy, A: 1, B: 5}},
	{{Kind: code.Drop, A: 1}, {Kind: code.Drop, A: 1}, {Kind: code.Drop, A: 1}},
	{{Kind: code.Copy, A: 2, B: 5}, {Kind: code.Drop, A: 5}},
}

// P20.1
func TestProgCostEmpty(t *testing.T) {
	for n, want := range map[int]int{0: 0, 1: 1, 2: 3, 3: 2, 4: 0, -1: 0, math.MinInt: 0, math.MaxInt: 0} {
		if l := Prog(programs, n); len(l) != want {
			t.Error(n, l)
		}
		for _, kind := range []int{task.Final, task.Call} {
			if c := Cost(programs, task.Task{Kind: kind, At: 3, Prog: n}); c != want+1 {
				t.Error(n, c)
			}
		}
	}
	if !slices.Equal(Prog(programs, 3), programs[3]) || len(Prog(nil, 0)) != 0 {
		t.Error(Prog(programs, 3))
	}
	if !Empty(hold.New(1, 0, 1)) || Empty(dropped(t, 0)) {
		t.Error("of tasks")
	}
}

// P20.2
func TestStepOfNothing(t *testing.T) {
	x := did(t, hold.New(2, 9, 1), op{Kind: code.New, A: 5, C: -1})
	if y, k, e := Step(x, programs); e != api.ErrEmpty || k != (task.Task{}) || !reflect.DeepEqual(y, x) {
		t.Error(y, k, e)
	}
}

// P20.2: what does not save itself dies behind its program, and the root 5 says nothing then.
func TestStepOfAFinalTask(t *testing.T) {
	x := did(t, dropped(t, 2), op{Kind: code.New, A: 5, C: -1}, op{Kind: code.Copy, A: 1, B: 5})
	y, k, e := Step(x, programs)
	if e != api.OK || k != (task.Task{Kind: task.Final, At: 1, Prog: 2}) || len(store.Live(y.S)) != 0 || y.Roots[5] != 0 || !Empty(y) {
		t.Error(y, k, e)
	}
	if !hold.Right(y) || !settle.Settled(y) {
		t.Error("not right", y)
	}
}

// P20.2
func TestWhatSavesItselfLivesOnce(t *testing.T) {
	x, _, _ := Step(dropped(t, 1), programs)
	o, e := store.Get(x.S, 1)
	if e != api.OK || o.Strong != 1 || x.Roots[1] != 1 || x.Roots[5] != 0 || !hold.Right(x) {
		t.Error(x)
	}
	x = did(t, x, op{Kind: code.Drop, A: 1})
	if len(store.Live(x.S)) != 0 || !Empty(x) {
		t.Error("saved again", x)
	}
}

// P20.2: the root 5 is turned to the object, ahead of the program, and what it said goes.
func TestTheProgramSeesItsObject(t *testing.T) {
	x := did(t, dropped(t, 3), op{Kind: code.New, A: 5, B: 0, C: 1})
	x, k, e := Step(x, programs)
	if e != api.OK || k.At != 1 || machine.At(x, 2) != 1 || machine.At(x, 5) != 0 || !slices.Equal(task.Held(x.Q), []int{2}) || !hold.Right(x) {
		t.Error(x, k, e)
	}
}

// P20.2: of a task Call the root 5 is left as it is; its cell may be set again by its own program.
func TestStepOfACall(t *testing.T) {
	progs := [][]op{{{Kind: code.Weak, A: 3, B: 5, C: 0}, {Kind: code.Copy, A: 0, B: 5}}}
	x := did(t, hold.New(3, 9, 1), op{Kind: code.New, A: 5, C: -1}, op{Kind: code.New, A: 0, C: -1}, op{Kind: code.Weak, A: 3, B: 0, C: 0}, op{Kind: code.Drop, A: 0})
	y, k, e := Step(x, progs)
	if e != api.OK || k != (task.Task{Kind: task.Call, At: 3, Prog: 0}) || machine.At(y, 5) != 1 || machine.At(y, 0) != 1 || !y.Cells[3].Intact || y.Cells[3].Target != 1 || !hold.Right(y) {
		t.Error(y, k, e)
	}
}

// P20.2: an object whose count was 11 is stuck by being handed to its program.
func TestTheTaskHoldsTillTheRootDoes(t *testing.T) {
	x := dropped(t, 0)
	for range 10 {
		x = hold.Retain(x, 1)
	}
	y, _, _ := Step(x, programs)
	if o, _ := store.Get(y.S, 1); o.Strong != 12 {
		t.Error(o)
	}
}

// P20.3
func TestDrain(t *testing.T) {
	x := dropped(t, 2, 0, 1) // costs 4, 1, 2
	for _, c := range []struct {
		fuel, done, left int
		e                api.Errno
	}{
		{-5, 0, -5, api.ErrFuel}, {0, 0, 0, api.ErrFuel}, {3, 0, 3, api.ErrFuel}, {4, 1, 0, api.ErrFuel}, {5, 2, 0, api.ErrFuel},
		{6, 2, 1, api.ErrFuel}, {7, 3, 0, api.OK}, {200, 3, 193, api.OK}, {math.MinInt, 0, math.MinInt, api.ErrFuel}, {math.MaxInt, 3, math.MaxInt - 7, api.OK},
	} {
		y, done, left, e := Drain(x, programs, c.fuel)
		if done != c.done || left != c.left || e != c.e || len(y.Q.L) != 3-done || !hold.Right(y) || !settle.Settled(y) {
			t.Error(c, done, left, e)
		}
		want := x
		for range c.done {
			want, _, _ = Step(want, programs)
		}
		if !reflect.DeepEqual(y, want) {
			t.Error(c, y)
		}
	}
	z := hold.New(1, 0, 1)
	if y, done, left, e := Drain(z, programs, 9); done != 0 || left != 9 || e != api.OK || !reflect.DeepEqual(y, z) {
		t.Error(done, left, e)
	}
	if _, done, left, e := Drain(z, nil, -1); done != 0 || left != -1 || e != api.OK {
		t.Error(done, left, e)
	}
}

// P20.4: tasks come in their order, those that programs bring behind the others; each object's program is run once.
func TestOrderAndOnce(t *testing.T) {
	progs := [][]op{
		{{Kind: code.New, A: 0, C: 1}, {Kind: code.Drop, A: 0}},
		{{Kind: code.Copy, A: 3, B: 5}, {Kind: code.Drop, A: 5}, {Kind: code.Drop, A: 3}},
		{},
	}
	x := dropped(t, 0, 2)
	var order []task.Task
	for !Empty(x) {
		var k task.Task
		x, k, _ = Step(x, progs)
		order = append(order, k)
	}
	if len(order) != 3 || order[0].At != 1 || order[1].At != 2 || order[2].Prog != 1 || len(store.Live(x.S)) != 0 || !hold.Right(x) {
		t.Error(order, x)
	}
}
