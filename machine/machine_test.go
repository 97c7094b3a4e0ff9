package machine

import (
	"math"
	"reflect"
	"slices"
	"testing"

	"mortmain/api"
	"mortmain/code"
	"mortmain/ephem"
	"mortmain/hold"
	"mortmain/settle"
	"mortmain/store"
	"mortmain/task"
	"mortmain/weak"
)

// did does what has to go well.
func did(t *testing.T, x hold.Heap, l ...code.Op) hold.Heap {
	t.Helper()
	for _, o := range l {
		var e api.Errno
		if x, _, e = Do(x, o); e != api.OK {
			t.Fatal(o, e)
		}
	}
	return x
}

func roots(x hold.Heap) [6]int {
	var l [6]int
	for r := range l {
		l[r] = At(x, r)
	}
	return l
}

// P18.1
func TestSerialAndAt(t *testing.T) {
	x := did(t, hold.New(2, 9, 1), code.Op{Kind: code.New, C: -1}, code.Op{Kind: code.New, C: -1}, code.Op{Kind: code.New, A: 5, C: -1})
	if x.Roots[0] != 2 || x.Roots[5] != 33 {
		t.Fatal(x.Roots)
	}
	for h, want := range map[int]int{2: 2, 33: 3, 1: 0, 0: 0, 3: 0, -1: 0, math.MaxInt: 0} {
		if n := Serial(x, h); n != want {
			t.Error(h, n)
		}
	}
	for r, want := range map[int]int{0: 2, 5: 3, 1: 0, -1: 0, 6: 0, math.MinInt: 0, math.MaxInt: 0} {
		if n := At(x, r); n != want {
			t.Error(r, n)
		}
	}
}

// P18.2: what each kind does, and answers.
func TestEachKind(t *testing.T) {
	base := did(t, hold.New(4, 9, 1),
		code.Op{Kind: code.New, A: 0, B: 3, C: -1}, code.Op{Kind: code.New, A: 1, B: 0, C: -1}, code.Op{Kind: code.New, A: 2, B: 4, C: 5},
		code.Op{Kind: code.Store, A: 0, B: 2, C: 1}, code.Op{Kind: code.Weak, A: 4, B: 2, C: 3}, code.Op{Kind: code.Pair, A: 1, B: 2})
	for _, c := range []struct {
		o     code.Op
		v     int
		roots [6]int
	}{
		{code.Op{Kind: code.New, A: 3, B: 1, C: 0}, 4, [6]int{1, 2, 3, 4}},
		{code.Op{Kind: code.New, A: 0, B: 1, C: 0}, 4, [6]int{4, 2, 3}},
		{code.Op{Kind: code.Copy, A: 5, B: 1, C: 99}, 2, [6]int{1, 2, 3, 0, 0, 2}},
		{code.Op{Kind: code.Copy, A: 0, B: 3}, 0, [6]int{0, 2, 3}},
		{code.Op{Kind: code.Copy, A: 0, B: 0}, 1, [6]int{1, 2, 3}},
		{code.Op{Kind: code.Drop, A: 1, B: -9}, 0, [6]int{1, 0, 3}},
		{code.Op{Kind: code.Load, A: 3, B: 0, C: 2}, 2, [6]int{1, 2, 3, 2}},
		{code.Op{Kind: code.Load, A: 0, B: 0, C: 2}, 2, [6]int{2, 2, 3}},
		{code.Op{Kind: code.Load, A: 2, B: 0, C: 0}, 0, [6]int{1, 2, 0}},
		{code.Op{Kind: code.Store, A: 2, B: 3, C: 0}, 1, [6]int{1, 2, 3}},
		{code.Op{Kind: code.Store, A: 0, B: 2, C: -1}, 0, [6]int{1, 2, 3}},
		{code.Op{Kind: code.Store, A: 0, B: 2, C: 5}, 0, [6]int{1, 2, 3}},
		{code.Op{Kind: code.Weak, A: 0, B: 1, C: -1}, 2, [6]int{1, 2, 3}},
		{code.Op{Kind: code.Weak, A: 4, B: -1, C: 0}, 0, [6]int{1, 2, 3}},
		{code.Op{Kind: code.Up, A: 5, B: 4}, 3, [6]int{1, 2, 3, 0, 0, 3}},
		{code.Op{Kind: code.Pair, A: 1, B: 0}, 1, [6]int{1, 2, 3}},
		{code.Op{Kind: code.Pair, A: 1, B: -1}, 0, [6]int{1, 2, 3}},
		{code.Op{Kind: code.Pair, A: 1, B: 4}, 0, [6]int{1, 2, 3}},
		{code.Op{Kind: code.Get, A: 4, B: 1}, 3, [6]int{1, 2, 3, 0, 3}},
		{code.Op{Kind: code.Same, A: 1, B: 1}, 1, [6]int{1, 2, 3}},
		{code.Op{Kind: code.Same, A: 1, B: 2}, 0, [6]int{1, 2, 3}},
		{code.Op{Kind: code.Same, A: 3, B: 5}, 1, [6]int{1, 2, 3}},
	} {
		x, v, e := Do(base, c.o)
		if v != c.v || e != api.OK || roots(x) != c.roots || !hold.Right(x) || !settle.Settled(x) {
			t.Error(c, v, e, roots(x))
		}
	}
	if x, _, _ := Do(base, code.Op{Kind: code.Same}); !reflect.DeepEqual(x, base) {
		t.Error("Same changes the heap")
	}
}

// P18.2: fields, cells and pairs say what they are turned to.
func TestWhatIsWritten(t *testing.T) {
	x := did(t, hold.New(2, 9, 2), code.Op{Kind: code.New, A: 0, B: 2, C: -1}, code.Op{Kind: code.New, A: 1, C: -1},
		code.Op{Kind: code.Store, A: 0, B: 1, C: 1}, code.Op{Kind: code.Weak, A: 3, B: 1, C: 4}, code.Op{Kind: code.Pair, A: 0, B: 1})
	v, _ := ephem.Get(x.T, 1)
	f, _ := store.Field(x.S, 1, 1)
	if f != 2 || x.Cells[3] != (weak.Cell{Target: 2, Intact: true, Call: 4}) || v != 2 {
		t.Error(x)
	}
	x = did(t, x, code.Op{Kind: code.Store, A: 0, B: 1, C: -1}, code.Op{Kind: code.Weak, A: 3, B: -1, C: 2}, code.Op{Kind: code.Pair, A: 0, B: -1})
	f, _ = store.Field(x.S, 1, 1)
	if f != 0 || x.Cells[3] != (weak.Cell{Call: 2}) || len(ephem.Pairs(x.T)) != 0 {
		t.Error(x)
	}
}

// P18.2
func TestErrors(t *testing.T) {
	x := did(t, hold.New(2, 9, 1), code.Op{Kind: code.New, A: 0, B: 2, C: -1}, code.Op{Kind: code.New, A: 1, C: 4},
		code.Op{Kind: code.Pair, A: 0, B: 1})
	waits := did(t, hold.New(1, 9, 1), code.Op{Kind: code.New, C: -1}, code.Op{Kind: code.Weak, A: 2, B: 0, C: 1}, code.Op{Kind: code.Drop})
	for _, c := range []struct {
		x hold.Heap
		o code.Op
		e api.Errno
	}{
		{x, code.Op{Kind: 0}, api.ErrOp}, {x, code.Op{Kind: 13}, api.ErrOp}, {x, code.Op{Kind: code.Collect}, api.ErrOp},
		{x, code.Op{Kind: code.Drain, A: 200}, api.ErrOp}, {x, code.Op{Kind: code.Drain, A: 201}, api.ErrFuel},
		{x, code.Op{Kind: code.New, A: 6, B: 9}, api.ErrRoot}, {x, code.Op{Kind: code.New, B: 5, C: 9}, api.ErrArg},
		{x, code.Op{Kind: code.New, C: 6}, api.ErrProg}, {x, code.Op{Kind: code.New, C: -1}, api.ErrFull},
		{x, code.Op{Kind: code.Load, B: 5, C: 3}, api.ErrNil}, {x, code.Op{Kind: code.Load, B: 0, C: 2}, api.ErrField},
		{x, code.Op{Kind: code.Load, B: 0, C: 4}, api.ErrField}, {x, code.Op{Kind: code.Load, B: 1, C: 0}, api.ErrField},
		{x, code.Op{Kind: code.Store, A: 2, B: 3, C: 0}, api.ErrNil}, {x, code.Op{Kind: code.Store, A: 0, B: 2, C: 0}, api.ErrField},
		{x, code.Op{Kind: code.Store, A: 1, B: 0, C: -1}, api.ErrField},
		{x, code.Op{Kind: code.Weak, A: 0, B: 4, C: 0}, api.ErrNil}, {x, code.Op{Kind: code.Weak, A: 6, B: 4}, api.ErrCell},
		{waits, code.Op{Kind: code.Weak, A: 2, B: 0, C: 0}, api.ErrNil}, {waits, code.Op{Kind: code.Weak, A: 2, B: -1, C: 0}, api.ErrCell},
		{x, code.Op{Kind: code.Up, A: 0, B: 0}, api.ErrNone}, {waits, code.Op{Kind: code.Up, A: 0, B: 2}, api.ErrNone},
		{x, code.Op{Kind: code.Up, A: 0, B: 6}, api.ErrCell},
		{x, code.Op{Kind: code.Pair, A: 3, B: 0}, api.ErrNil}, {x, code.Op{Kind: code.Pair, A: 1, B: 0}, api.ErrTable},
		{x, code.Op{Kind: code.Get, A: 0, B: 3}, api.ErrNil}, {x, code.Op{Kind: code.Get, A: 0, B: 1}, api.ErrNone},
	} {
		if y, v, e := Do(c.x, c.o); e != c.e || v != 0 || !reflect.DeepEqual(y, c.x) {
			t.Error(c.o, v, e)
		}
	}
	if _, v, e := Do(x, code.Op{Kind: code.Pair, A: 1, B: -1}); v != 0 || e != api.OK {
		t.Error(v, e)
	}
}

// P18.2: all settles behind an operation.
func TestAllSettles(t *testing.T) {
	x := did(t, hold.New(3, 9, 2), code.Op{Kind: code.New, A: 0, B: 1, C: -1}, code.Op{Kind: code.New, A: 1, C: 2}, code.Op{Kind: code.New, A: 2, C: -1},
		code.Op{Kind: code.Store, A: 0, B: 0, C: 1}, code.Op{Kind: code.Pair, A: 1, B: 2}, code.Op{Kind: code.Drop, A: 1}, code.Op{Kind: code.Drop, A: 2})
	if n := len(store.Live(x.S)); n != 3 || len(x.Q.L) != 0 {
		t.Fatal(x)
	}
	y := did(t, x, code.Op{Kind: code.Drop, A: 0})
	if !slices.Equal(store.Live(y.S), []int{2, 3}) || !slices.Equal(y.Q.L, []task.Task{{Kind: task.Final, At: 2, Prog: 2}}) {
		t.Error(y)
	}
}

// P18.3: errors change nothing, and what comes behind them is done.
func TestRun(t *testing.T) {
	l := []code.Op{{Kind: code.New, A: 0, C: -1}, {Kind: code.Copy, A: 1, B: 0}, {Kind: code.Load, A: 1, B: 0, C: 0}, {Kind: 99}, {Kind: code.Drop, A: 0}, {Kind: code.Same, A: 0, B: 5}}
	x, answers := Run(hold.New(1, 9, 1), l)
	if !slices.Equal(answers, []int{1, 1, 0, 0, 0, 1}) || roots(x) != [6]int{0, 1} {
		t.Error(answers, roots(x))
	}
	if y, answers := Run(x, nil); len(answers) != 0 || !reflect.DeepEqual(y, x) {
		t.Error(answers)
	}
}

// P18.4
func TestHeapsStayRightAndSettled(t *testing.T) {
	seed := uint32(5)
	next := func(n int) int {
		seed = seed*1664525 + 1013904223
		return int(seed>>8) % n
	}
	for range 40 {
		x := hold.New(6, 2, 2)
		for i := range 150 {
			o := code.Op{Kind: 1 + next(11), A: next(6), B: next(7) - 1, C: next(5) - 1}
			x, _, _ = Do(x, o)
			if !hold.Right(x) || !settle.Settled(x) {
				t.Fatal(i, o, x)
			}
		}
	}
}
