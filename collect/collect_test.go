package collect

import (
	"reflect"
	"slices"
	"testing"

	"mortmain/api"
	"mortmain/code"
	"mortmain/ephem"
	"mortmain/fix"
	"mortmain/hold"
	"mortmain/machine"
	"mortmain/settle"
	"mortmain/slab"
	"mortmain/store"
	"mortmain/task"
)

type op = code.Op

func did(t *testing.T, x hold.Heap, l ...op) hold.Heap {
	t.Helper()
	for _, o := range l {
		var e api.Errno
		if x, _, e = machine.Do(x, o); e != api.OK {
			t.Fatal(o, e)
		}
	}
	return x
}

// ring has n objects, each of which names the next one, with their programs; no root names them.
func ring(t *testing.T, progs ...int) hold.Heap {
	t.Helper()
	x := hold.New(len(progs)+2, 9, 4)
	for i, prog := range progs {
		x = did(t, x, op{Kind: code.New, A: 0, B: 2, C: prog})
		if i == 0 {
			x = did(t, x, op{Kind: code.Copy, A: 1, B: 0})
		} else {
			x = did(t, x, op{Kind: code.Store, A: 2, B: 0, C: 0})
		}
		x = did(t, x, op{Kind: code.Copy, A: 2, B: 0})
	}
	return did(t, x, op{Kind: code.Store, A: 2, B: 0, C: 1}, op{Kind: code.Drop, A: 0}, op{Kind: code.Drop, A: 1}, op{Kind: code.Drop, A: 2})
}

// P19.1
func TestGarbageBatchClean(t *testing.T) {
	x := ring(t, -1, 3, -1, 0)
	if !slices.Equal(Garbage(x), []int{1, 2, 3, 4}) || !slices.Equal(Batch(x), []int{2, 4}) || Clean(x) {
		t.Error(Garbage(x), Batch(x), Clean(x))
	}
	y := settle.Queued(x, 2)
	if len(Garbage(y)) != 0 || len(Batch(y)) != 0 || !Clean(y) {
		t.Error(Garbage(y), Batch(y))
	}
	q, _, _ := task.Next(y.Q)
	y.Q = q
	y = hold.Release(y, 2)
	if len(Garbage(y)) != 4 || !slices.Equal(Batch(y), []int{4}) {
		t.Error(Garbage(y), Batch(y))
	}
	y.S.S.Cells[3].Val.Serial, y.S.S.Cells[0].Val.Serial = 1, 4
	if !slices.Equal(Garbage(y), []int{4, 2, 3, 1}) {
		t.Error(Garbage(y))
	}
	if z := hold.New(3, 9, 1); !Clean(z) || len(Garbage(z)) != 0 {
		t.Error(z)
	}
}

// P19.2
func TestCollectOfWhatHasNoProgram(t *testing.T) {
	x := ring(t, -1, -1, -1)
	x = did(t, x, op{Kind: code.New, A: 0, C: -1})
	y, queued, gone := Collect(x)
	if queued != 0 || gone != 3 || !Clean(y) || !hold.Right(y) || !settle.Settled(y) || !slices.Equal(store.Live(y.S), []int{4}) {
		t.Error(queued, gone, y)
	}
	if z, queued, gone := Collect(y); queued != 0 || gone != 0 || !reflect.DeepEqual(z, y) {
		t.Error(queued, gone)
	}
}

// P19.2: what garbage named alone goes with it, when all settles; what it named that has a program waits.
func TestCollectSettles(t *testing.T) {
	x := hold.New(5, 9, 2)
	x = did(t, x, op{Kind: code.New, A: 0, B: 2, C: -1}, op{Kind: code.Store, A: 0, B: 0, C: 0},
		op{Kind: code.New, A: 1, B: 1, C: -1}, op{Kind: code.Store, A: 0, B: 1, C: 1},
		op{Kind: code.New, A: 2, B: 0, C: -1}, op{Kind: code.Pair, A: 0, B: 2}, op{Kind: code.Weak, A: 0, B: 0, C: 4}, op{Kind: code.Weak, A: 1, B: 2, C: 1},
		op{Kind: code.Drop, A: 0}, op{Kind: code.Drop, A: 1}, op{Kind: code.Drop, A: 2})
	if len(store.Live(x.S)) != 3 {
		t.Fatal(x)
	}
	y, queued, gone := Collect(x)
	if queued != 0 || gone != 3 || len(store.Live(y.S)) != 0 || len(ephem.Pairs(y.T)) != 0 || !hold.Right(y) {
		t.Error(queued, gone, y)
	}
	if !slices.Equal(y.Q.L, []task.Task{{Kind: task.Call, At: 0, Prog: 4}, {Kind: task.Call, At: 1, Prog: 1}}) || y.S.S.Cells[0].State != slab.Dead {
		t.Error(y.Q)
	}
}

// P19.2: programs come first, and all of the ring lives till they were run.
func TestCollectQueuesWhatHasAProgram(t *testing.T) {
	x := ring(t, 2, -1, 5)
	y, queued, gone := Collect(x)
	if queued != 2 || gone != 0 || len(store.Live(y.S)) != 3 || !hold.Right(y) || !settle.Settled(y) {
		t.Error(queued, gone, y)
	}
	if !slices.Equal(y.Q.L, []task.Task{{Kind: task.Final, At: 1, Prog: 2}, {Kind: task.Final, At: 3, Prog: 5}}) {
		t.Error(y.Q)
	}
	if z, queued, gone := Collect(y); queued != 0 || gone != 0 || !reflect.DeepEqual(z, y) {
		t.Error("collected again while tasks wait", queued, gone)
	}
	for _, h := range []int{1, 3} {
		q, _, _ := task.Next(y.Q)
		y.Q = q
		y = hold.Release(y, h)
	}
	if z, queued, gone := Collect(y); queued != 0 || gone != 3 || len(store.Live(z.S)) != 0 || !hold.Right(z) {
		t.Error(queued, gone, z)
	}
}

// P19.3: what is stuck holds a ring that nobody names.
func TestWhatIsStuckStays(t *testing.T) {
	x := ring(t, -1, -1)
	for range 12 {
		x = hold.Retain(x, 2)
	}
	if y, queued, gone := Collect(x); queued != 0 || gone != 0 || !reflect.DeepEqual(y, x) || !Clean(x) {
		t.Error(queued, gone)
	}
}

// P19.3
func TestWhatIsReachedStays(t *testing.T) {
	seed := uint32(13)
	next := func(n int) int {
		seed = seed*1664525 + 1013904223
		return int(seed>>8) % n
	}
	gone, queued := 0, 0
	for range 150 {
		x := hold.New(8, 9, 3)
		for range 80 {
			prog := next(20) - 19
			x, _, _ = machine.Do(x, op{Kind: []int{1, 2, 3, 5, 5, 5, 6, 8}[next(8)], A: next(6), B: next(4), C: max(-1, prog)})
		}
		reached := fix.From(x.S, x.T, hold.Outer(x))
		y, q, n := Collect(x)
		left := store.Live(y.S)
		if !hold.Right(y) || !settle.Settled(y) || len(store.Live(x.S)) != len(left)+n || q == 0 && !Clean(y) {
			t.Fatal(x, q, n)
		}
		for _, h := range reached {
			if !slices.Contains(left, h) {
				t.Fatal(h, x)
			}
		}
		queued, gone = queued+q, gone+n
	}
	if gone == 0 || queued == 0 {
		t.Error("nothing was tried", gone, queued)
	}
}
