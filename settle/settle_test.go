package settle

import (
	"reflect"
	"slices"
	"testing"

	"mortmain/api"
	"mortmain/ephem"
	"mortmain/fix"
	"mortmain/hold"
	"mortmain/slab"
	"mortmain/store"
	"mortmain/task"
	"mortmain/weak"
)

type object struct {
	prog   int
	fields []int
}

// built makes the objects 1, 2, .., and turns their fields.
func built(t *testing.T, objects ...object) hold.Heap {
	t.Helper()
	x := hold.New(len(objects), 9, 4)
	for _, o := range objects {
		var e api.Errno
		if x.S, _, e = store.Make(x.S, len(o.fields), o.prog); e != api.OK {
			t.Fatal(e)
		}
	}
	for i, o := range objects {
		for k, v := range o.fields {
			x = must(t)(hold.Field(x, i+1, k, v))
		}
	}
	return x
}

func must(t *testing.T) func(hold.Heap, api.Errno) hold.Heap {
	return func(x hold.Heap, e api.Errno) hold.Heap {
		t.Helper()
		if e != api.OK {
			t.Fatal(e)
		}
		return x
	}
}

func strong(x hold.Heap, h int) int {
	o, _ := store.Get(x.S, h)
	return o.Strong
}

func state(x hold.Heap, slot int) int { return x.S.S.Cells[slot].State }

// P16.1
func TestZeroAndSettled(t *testing.T) {
	x := built(t, object{-1, []int{2}}, object{-1, nil}, object{3, []int{3}}, object{0, nil})
	x.S.S.Cells[0].Val.Serial, x.S.S.Cells[3].Val.Serial = 4, 1
	if l := Zero(x); !slices.Equal(l, []int{4, 1}) || Settled(x) {
		t.Error(l)
	}
	x = must(t)(hold.Root(must(t)(hold.Root(x, 0, 1)), 1, 4))
	if len(Zero(x)) != 0 || !Settled(x) || !Settled(hold.New(3, 0, 1)) {
		t.Error(Zero(x))
	}
}

// P16.2
func TestQueued(t *testing.T) {
	x := built(t, object{3, []int{1}}, object{-1, nil}, object{0, nil})
	y := Queued(Queued(x, 1), 3)
	o, _ := store.Get(y.S, 1)
	if !o.Started || o.Strong != 2 || strong(y, 3) != 1 || !slices.Equal(y.Q.L, []task.Task{{Kind: task.Final, At: 1, Prog: 3}, {Kind: task.Final, At: 3, Prog: 0}}) {
		t.Error(y)
	}
	if len(x.Q.L) != 0 || strong(x, 1) != 1 {
		t.Error("what was handed in is changed", x)
	}
	for _, h := range []int{1, 2, 0, 4, 33, -1} {
		if z := Queued(y, h); !reflect.DeepEqual(z, y) {
			t.Error(h, z)
		}
	}
	y.S.S, _ = slab.Kill(x.S.S, 3)
	if z := Queued(y, 3); !reflect.DeepEqual(z, y) {
		t.Error("of a dead one", z)
	}
}

// P16.3
func TestBury(t *testing.T) {
	x := built(t, object{-1, []int{2, 0, 4, 4}}, object{5, []int{1, 3}}, object{-1, nil}, object{-1, nil}, object{-1, nil})
	for _, w := range []struct{ w, h, call int }{{0, 2, 4}, {1, 1, -1}, {2, 4, 3}, {3, 1, 0}, {5, 2, 2}} {
		x = must(t)(hold.Weak(x, w.w, w.h, w.call))
	}
	for _, p := range [][2]int{{1, 5}, {2, 5}, {5, 3}, {4, 4}} {
		x = must(t)(hold.Pair(x, p[0], p[1]))
	}
	x = must(t)(hold.Root(must(t)(hold.Root(x, 0, 4)), 1, 5))
	y := Bury(x, []int{2, 99, 1, 2, 0})
	for slot, want := range []int{slab.Dead, slab.Dead, slab.Live, slab.Live, slab.Live} {
		if state(y, slot) != want {
			t.Error(slot, state(y, slot))
		}
	}
	for _, slot := range []int{0, 1} {
		if o := y.S.S.Cells[slot].Val; len(o.Fields) != 0 || o.Strong != 0 || o.Weak != 2 || o.Serial != slot+1 {
			t.Error(slot, o)
		}
	}
	// 3 was named by 2 and by the pair of 5; 4 by 1, twice, by its own pair and a root; 5 by the pairs of 1 and 2, and a root.
	if strong(y, 3) != 1 || strong(y, 4) != 2 || strong(y, 5) != 1 {
		t.Error(strong(y, 3), strong(y, 4), strong(y, 5))
	}
	if l := y.Q.L; !slices.Equal(l, []task.Task{{Kind: task.Call, At: 0, Prog: 4}, {Kind: task.Call, At: 3, Prog: 0}, {Kind: task.Call, At: 5, Prog: 2}}) {
		t.Error(l)
	}
	for w, intact := range []bool{false, false, true, false, false, false} {
		if y.Cells[w].Intact != intact || y.Cells[w].Target != x.Cells[w].Target {
			t.Error(w, y.Cells[w])
		}
	}
	left := ephem.Pairs(y.T)
	slices.SortFunc(left, func(a, b ephem.Pair) int { return a.Key - b.Key })
	if !slices.Equal(left, []ephem.Pair{{Key: 4, Val: 4}, {Key: 5, Val: 3}}) || !hold.Right(y) || !hold.Right(x) {
		t.Error(y.T)
	}
}

// P16.3
func TestBuryGivesBackWhatNoCellNames(t *testing.T) {
	x := built(t, object{-1, []int{1, 1}}, object{-1, nil})
	x = must(t)(hold.Root(x, 0, 2))
	y := Bury(x, []int{1})
	if c := y.S.S.Cells[0]; c.State != slab.Free || c.Gen != 1 || c.Val.Serial != 0 || len(y.Q.L) != 0 || !hold.Right(y) {
		t.Error(y)
	}
	for _, hs := range [][]int{nil, {0}, {33, 99, -1}} {
		if y := Bury(x, hs); !reflect.DeepEqual(y, x) {
			t.Error(hs, y)
		}
	}
	x.S.S.Last = 0
	if y := Bury(x, []int{1}); y.S.S.Cells[0].State != slab.Retired {
		t.Error(y)
	}
}

// P16.4: chains go; what has a program is queued once, and lives till then.
func TestSettle(t *testing.T) {
	x := built(t, object{-1, []int{2}}, object{-1, []int{3, 4}}, object{2, []int{5}}, object{-1, nil}, object{-1, nil}, object{-1, nil})
	x = must(t)(hold.Pair(must(t)(hold.Root(x, 0, 4)), 1, 6))
	y := Settle(x)
	for slot, want := range []int{slab.Free, slab.Free, slab.Live, slab.Live, slab.Live, slab.Free} {
		if state(y, slot) != want {
			t.Error(slot, state(y, slot))
		}
	}
	if !Settled(y) || !hold.Right(y) || !slices.Equal(task.Held(y.Q), []int{3}) || strong(y, 3) != 1 || strong(y, 4) != 1 || Settled(x) {
		t.Error(y)
	}
	if z := Settle(y); !reflect.DeepEqual(z, y) {
		t.Error("it goes on", z)
	}
	q, _, _ := task.Next(y.Q)
	y.Q = q
	z := Settle(hold.Release(y, 3))
	if state(z, 2) != slab.Free || state(z, 4) != slab.Free || state(z, 3) != slab.Live || len(z.Q.L) != 0 || !hold.Right(z) {
		t.Error(z)
	}
}

// P16.4: the least serial goes first, and what it lets go may go ahead of the others.
func TestSettleGoesBySerials(t *testing.T) {
	x := built(t, object{0, nil}, object{1, nil}, object{-1, []int{4}}, object{2, nil}, object{3, nil})
	for slot, serial := range []int{5, 4, 1, 2, 3} {
		x.S.S.Cells[slot].Val.Serial = serial
	}
	y := Settle(x)
	if l := task.Held(y.Q); !slices.Equal(l, []int{4, 5, 2, 1}) {
		t.Error(l)
	}
}

// P16.5
func TestAllCellsOfWhatDiesAreCleared(t *testing.T) {
	x := built(t, object{-1, []int{2}}, object{-1, nil})
	for w := range api.Cells {
		x = must(t)(hold.Weak(x, w, 1+w%2, w))
	}
	y := Settle(x)
	for w := range api.Cells {
		if h, e := weak.Load(y.Cells, w); h != 0 || e != api.ErrNone || !task.Waits(y.Q, w) {
			t.Error(w, h, e)
		}
	}
	if task.Count(y.Q, task.Call) != 6 || state(y, 0) != slab.Dead || state(y, 1) != slab.Dead || !hold.Right(y) {
		t.Error(y)
	}
}

// P16.5: what is reached from outside lives, and heaps stay right.
func TestWhatIsReachedLives(t *testing.T) {
	seed := uint32(11)
	next := func(n int) int {
		seed = seed*1664525 + 1013904223
		return int(seed>>8) % n
	}
	for range 60 {
		x := hold.New(6, 2, 3)
		for i := range 120 {
			live := append(store.Live(x.S), 0)
			any := func() int { return live[next(len(live))] }
			switch next(5) {
			case 0, 1:
				if s, h, e := store.Make(x.S, next(5), next(4)-1); e == api.OK {
					x.S = s
					x = must(t)(hold.Root(x, next(6), h))
				}
				x, _ = hold.Field(x, any(), next(3), any())
			case 2:
				x, _ = hold.Root(x, next(6), any())
			case 3:
				x, _ = hold.Weak(x, next(6), any(), next(7)-1)
			case 4:
				x, _ = hold.Pair(x, any(), any())
			}
			reached := fix.From(x.S, x.T, hold.Outer(x))
			started := task.Count(x.Q, task.Final)
			x = Settle(x)
			if !hold.Right(x) || !Settled(x) || task.Count(x.Q, task.Final) < started {
				t.Fatal(i, x)
			}
			for _, h := range reached {
				if !slices.Contains(store.Live(x.S), h) {
					t.Fatal(i, h, x)
				}
			}
		}
	}
}
