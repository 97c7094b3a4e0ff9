package hold

import (
	"math"
	"reflect"
	"slices"
	"testing"

	"mortmain/api"
	"mortmain/ephem"
	"mortmain/hash"
	"mortmain/slab"
	"mortmain/store"
	"mortmain/task"
	"mortmain/weak"
)

// made has the objects 1, 2, .. of four fields each, with the program 2, in slots of
// two generations; nothing names them, but root 0 names the first.
func made(t *testing.T, n int) Heap {
	t.Helper()
	x := New(n, 1, 2)
	for range n {
		var e api.Errno
		if x.S, _, e = store.Make(x.S, 4, 2); e != api.OK {
			t.Fatal(e)
		}
	}
	return must(t)(Root(x, 0, 1))
}

func must(t *testing.T) func(Heap, api.Errno) Heap {
	return func(x Heap, e api.Errno) Heap {
		t.Helper()
		if e != api.OK {
			t.Fatal(e)
		}
		return x
	}
}

func strong(x Heap, h int) int {
	o, _ := store.Get(x.S, h)
	return o.Strong
}

func weakOf(x Heap, h int) int {
	place, e := slab.Find(x.S.S, h)
	if e != api.OK {
		return -1
	}
	return x.S.S.Cells[place].Val.Weak
}

// rich is a right heap that has all there may be: 1 and 2 live, 3 is dead, 4 is free and 5 retired.
func rich() Heap {
	return Heap{
		S: store.Store{Serial: 9, S: slab.Slab[store.Obj]{Last: 3, Cells: []slab.Cell[store.Obj]{
			{State: slab.Live, Gen: 0, Val: store.Obj{Serial: 7, Strong: 4, Weak: 1, Prog: 1, Started: true, Fields: []int{34, 1, 0}}},
			{State: slab.Live, Gen: 1, Val: store.Obj{Serial: 2, Strong: 2, Prog: -1}},
			{State: slab.Dead, Gen: 2, Val: store.Obj{Serial: 5, Weak: 2, Prog: 3}},
			{State: slab.Free, Gen: 3},
			{State: slab.Retired, Gen: 3},
		}}},
		Roots: []int{1, 0, 0, 34, 0, 0},
		Cells: []weak.Cell{{Target: 1, Intact: true, Call: 5}, {Target: 67, Call: 2}, {Call: -1}, {Target: 67, Call: -1}, {Call: 0}, {Call: 1}},
		T:     []hash.Place{{State: hash.Gone}, {State: hash.Full, Key: 34, Val: 1}, {State: hash.Free}},
		Q:     task.Queue{Cap: 30, L: []task.Task{{Kind: task.Final, At: 1, Prog: 1}, {Kind: task.Call, At: 1, Prog: 2}}},
	}
}

// P15.1
func TestRightHeaps(t *testing.T) {
	stuck := rich()
	stuck.S.S.Cells[1].Val.Strong = 12
	for i, x := range []Heap{rich(), stuck, New(1, 0, 1), New(24, 9, 8), made(t, 1)} {
		if !Right(x) {
			t.Error(i, x)
		}
	}
	if Right(Heap{}) {
		t.Error("the zero heap")
	}
}

// P15.1: a task of each object and of each cell is as many as there may be.
func TestAQueueThatIsFull(t *testing.T) {
	x := New(24, 9, 8)
	for h := 1; h <= 24; h++ {
		x.S, _, _ = store.Make(x.S, 0, 0)
		x.S, _ = store.Set(x.S, h, store.Obj{Serial: h, Strong: 1, Started: true})
		x.Q, _ = task.Add(x.Q, task.Task{Kind: task.Final, At: h})
	}
	for w := range 6 {
		x.Q, _ = task.Add(x.Q, task.Task{Kind: task.Call, At: w})
	}
	if len(x.Q.L) != 30 || !Right(x) {
		t.Error(x)
	}
}

// P15.1: what stands behind a free slot is asked, too.
func TestSpoiltBehindAFreeSlot(t *testing.T) {
	x := made(t, 2)
	x = must(t)(Root(x, 0, 2))
	x.S.S, _ = slab.Give(x.S.S, 1)
	if !Right(x) {
		t.Fatal(x)
	}
	if x.S.S.Cells[1].Val.Weak = 1; Right(x) {
		t.Error(x)
	}
}

// P15.1
func TestSpoiltHeaps(t *testing.T) {
	for i, spoil := range []func(x *Heap){
		func(x *Heap) { x.S.Serial = 6 },
		func(x *Heap) { x.T[2].Key = 1 },
		func(x *Heap) { x.T = nil },
		func(x *Heap) { x.Roots = x.Roots[:5] },
		func(x *Heap) { x.Roots = append(x.Roots, 0) },
		func(x *Heap) { x.Cells = x.Cells[:5] },
		func(x *Heap) { x.Cells = append(x.Cells, weak.Cell{Call: -1}) },
		func(x *Heap) { x.Q.Cap = 29 },
		func(x *Heap) { x.Q.L = append(x.Q.L, make([]task.Task, 29)...) },
		func(x *Heap) { x.Q.L = append(x.Q.L, task.Task{Kind: 3, At: 0, Prog: 0}) },
		func(x *Heap) { x.Roots[1] = 33 },
		func(x *Heap) { x.Roots[1] = 67 },
		func(x *Heap) { x.Roots[1] = -1 },
		func(x *Heap) { x.S.S.Cells[0].Val.Fields[2] = 67 },
		func(x *Heap) { x.S.S.Cells[0].Val.Fields[2] = 2 },
		func(x *Heap) { x.T[1] = hash.Place{State: hash.Full, Key: 67, Val: 1} },
		func(x *Heap) { x.T[1].Val = 67; x.S.S.Cells[0].Val.Strong-- },
		func(x *Heap) { x.T[1].Val = 0; x.S.S.Cells[0].Val.Strong-- },
		func(x *Heap) { x.Q.L[0].At = 34; x.S.S.Cells[0].Val.Strong--; x.S.S.Cells[1].Val.Strong++ },
		func(x *Heap) { x.Q.L[0].At = 67; x.S.S.Cells[0].Val.Strong-- },
		func(x *Heap) { x.Q.L = append(x.Q.L, task.Task{Kind: task.Final, At: 1}); x.S.S.Cells[0].Val.Strong++ },
		func(x *Heap) { x.Q.L = append(x.Q.L, task.Task{Kind: task.Call, At: 1, Prog: 3}) },
		func(x *Heap) { x.Q.L[1].At = 6 },
		func(x *Heap) { x.Q.L[1].At = -1 },
		func(x *Heap) { x.Q.L[0].Prog = -1 },
		func(x *Heap) { x.Q.L[1].Prog = 6 },
		func(x *Heap) { x.Cells[2].Call = -2 },
		func(x *Heap) { x.Cells[0].Call = 6 },
		func(x *Heap) { x.Cells[2].Intact = true },
		func(x *Heap) { x.Cells[3].Intact = true },
		func(x *Heap) { x.Cells[2].Target = 2 },
		func(x *Heap) { x.Cells[2].Target = 132 },
		func(x *Heap) { x.Q.L[1].At = 0 },
		func(x *Heap) { x.S.S.Cells[0].Val.Strong = 3 },
		func(x *Heap) { x.S.S.Cells[1].Val.Strong = 3 },
		func(x *Heap) { x.S.S.Cells[0].Val.Weak = 0 },
		func(x *Heap) { x.S.S.Cells[1].Val.Weak = 1 },
		func(x *Heap) { x.S.S.Cells[2].Val.Weak = 3 },
		func(x *Heap) { x.Cells[1].Target, x.Cells[3].Target = 0, 0; x.S.S.Cells[2].Val.Weak = 0 },
		func(x *Heap) { x.S.S.Cells[2].Val.Fields = []int{0} },
		func(x *Heap) { x.S.S.Cells[2].Val.Strong = 1 },
		func(x *Heap) { x.S.S.Cells[2].Val.Strong = 12 },
		func(x *Heap) { x.S.S.Cells[0].Val.Started = false },
	} {
		x := rich()
		if spoil(&x); Right(x) {
			t.Error("spoilt", i, x)
		}
	}
}

// P15.1
func TestOuter(t *testing.T) {
	x := rich()
	x.Q.L = append(x.Q.L, task.Task{Kind: task.Final, At: 34})
	if l := Outer(x); !slices.Equal(l, []int{1, 34, 1, 34}) {
		t.Error(l)
	}
	if l := Outer(Heap{}); len(l) != 0 {
		t.Error(l)
	}
}

// P15.2
func TestNew(t *testing.T) {
	x := New(3, 9, 2)
	want := Heap{S: store.New(3, 9), Roots: make([]int, 6), Cells: weak.New(6), T: hash.New(2), Q: task.New()}
	if !reflect.DeepEqual(x, want) || !Right(x) {
		t.Error(x)
	}
	for _, c := range [][3]int{{0, 0, 1}, {25, 0, 1}, {-1, 0, 1}, {1, -1, 1}, {1, 10, 1}, {1, 0, 0}, {1, 0, 9}, {math.MaxInt, 0, 1}, {1, 0, math.MinInt}} {
		if x := New(c[0], c[1], c[2]); !reflect.DeepEqual(x, Heap{}) {
			t.Error(c, x)
		}
	}
}

// P15.3
func TestRetainAndRelease(t *testing.T) {
	x := made(t, 2)
	for want := 2; want <= 14; want++ {
		if x = Retain(x, 1); strong(x, 1) != min(want, 12) {
			t.Error(want, strong(x, 1))
		}
	}
	if x = Release(x, 1); strong(x, 1) != 12 {
		t.Error(strong(x, 1))
	}
	y := Release(Retain(Retain(x, 2), 2), 2)
	if strong(y, 2) != 1 || strong(x, 2) != 0 {
		t.Error(strong(y, 2), strong(x, 2))
	}
	if y = Release(Release(y, 2), 2); strong(y, 2) != 0 {
		t.Error(strong(y, 2))
	}
	for _, h := range []int{0, 3, 33, -1, math.MaxInt} {
		if !reflect.DeepEqual(Retain(x, h), x) || !reflect.DeepEqual(Release(x, h), x) {
			t.Error(h)
		}
	}
	d := rich()
	if !reflect.DeepEqual(Retain(d, 67), d) || !reflect.DeepEqual(Release(d, 67), d) {
		t.Error("of a dead one")
	}
}

// P15.4
func TestRoot(t *testing.T) {
	x := made(t, 2)
	y := must(t)(Root(x, 0, 2))
	if y.Roots[0] != 2 || strong(y, 1) != 0 || strong(y, 2) != 1 || x.Roots[0] != 1 || strong(x, 1) != 1 {
		t.Error(y, x)
	}
	if y = must(t)(Root(x, 0, 1)); strong(y, 1) != 1 || y.Roots[0] != 1 {
		t.Error(y)
	}
	if y = must(t)(Root(x, 5, 1)); strong(y, 1) != 2 || y.Roots[5] != 1 {
		t.Error(y)
	}
	if y = must(t)(Root(x, 0, 0)); strong(y, 1) != 0 || y.Roots[0] != 0 {
		t.Error(y)
	}
	for _, c := range []struct {
		r, h int
		e    api.Errno
	}{{-1, 99, api.ErrRoot}, {6, 1, api.ErrRoot}, {math.MaxInt, 1, api.ErrRoot}, {0, 99, api.ErrStale}, {5, 33, api.ErrStale}, {1, -1, api.ErrStale}} {
		if y, e := Root(x, c.r, c.h); e != c.e || !reflect.DeepEqual(y, x) {
			t.Error(c, y, e)
		}
	}
	if y, e := Root(rich(), 1, 67); e != api.ErrStale || !reflect.DeepEqual(y, rich()) {
		t.Error("a dead one", y, e)
	}
}

// P15.4: who is named anew by the place that names it is stuck, if its count was 11.
func TestTheNewNameIsRetainedFirst(t *testing.T) {
	x := made(t, 2)
	for k := range 4 {
		x = must(t)(Field(x, 1, k, 1))
		x = must(t)(Field(x, 2, k, 1))
	}
	x = must(t)(Root(must(t)(Root(x, 1, 1)), 2, 1))
	x.S.S.Cells[0].Val.Strong = 11
	x.Roots[2] = 1
	if x = must(t)(Root(x, 2, 1)); strong(x, 1) != 12 {
		t.Error(strong(x, 1))
	}
}

// P15.4
func TestField(t *testing.T) {
	x := made(t, 2)
	y := must(t)(Field(x, 1, 3, 2))
	if v, _ := store.Field(y.S, 1, 3); v != 2 || strong(y, 2) != 1 || strong(x, 2) != 0 {
		t.Error(y)
	}
	y = must(t)(Field(y, 1, 3, 1))
	if v, _ := store.Field(y.S, 1, 3); v != 1 || strong(y, 2) != 0 || strong(y, 1) != 2 {
		t.Error(y)
	}
	y = must(t)(Field(y, 1, 3, 0))
	if v, _ := store.Field(y.S, 1, 3); v != 0 || strong(y, 1) != 1 {
		t.Error(y)
	}
	for _, c := range []struct {
		h, k, v int
		e       api.Errno
	}{{0, 9, 9, api.ErrNil}, {33, 9, 9, api.ErrStale}, {1, 4, 99, api.ErrField}, {1, -1, 1, api.ErrField}, {1, 0, 99, api.ErrStale}, {2, 0, 34, api.ErrStale}} {
		if y, e := Field(x, c.h, c.k, c.v); e != c.e || !reflect.DeepEqual(y, x) {
			t.Error(c, y, e)
		}
	}
}

// P15.4
func TestWeak(t *testing.T) {
	x := made(t, 2)
	y := must(t)(Weak(x, 3, 1, 4))
	if y.Cells[3] != (weak.Cell{Target: 1, Intact: true, Call: 4}) || weakOf(y, 1) != 1 || strong(y, 1) != 1 || x.Cells[3].Target != 0 || weakOf(x, 1) != 0 {
		t.Error(y)
	}
	if y = must(t)(Weak(y, 3, 1, -1)); weakOf(y, 1) != 1 || y.Cells[3].Call != -1 {
		t.Error(y)
	}
	if y = must(t)(Weak(y, 3, 2, 0)); weakOf(y, 1) != 0 || weakOf(y, 2) != 1 {
		t.Error(y)
	}
	if y = must(t)(Weak(y, 3, 0, 2)); weakOf(y, 2) != 0 || y.Cells[3] != (weak.Cell{Call: 2}) {
		t.Error(y)
	}
	for _, c := range []struct {
		w, h int
		e    api.Errno
	}{{-1, 99, api.ErrCell}, {6, 1, api.ErrCell}, {math.MaxInt, 1, api.ErrCell}, {0, 99, api.ErrStale}, {0, 33, api.ErrStale}} {
		if y, e := Weak(x, c.w, c.h, 0); e != c.e || !reflect.DeepEqual(y, x) {
			t.Error(c, y, e)
		}
	}
}

// P15.4: of what is dead the last cell that names it keeps the slot.
func TestWeakGivesBackTheSlotOfTheDead(t *testing.T) {
	x := rich()
	if y, e := Weak(x, 1, 0, -1); e != api.ErrCell || !reflect.DeepEqual(y, x) {
		t.Error("a task waits", y, e)
	}
	if y, e := Weak(x, 2, 67, -1); e != api.ErrStale || !reflect.DeepEqual(y, x) {
		t.Error("of a dead one", y, e)
	}
	y := must(t)(Weak(x, 3, 1, -1))
	if weakOf(y, 67) != 1 || weakOf(y, 1) != 2 || y.S.S.Cells[2].State != slab.Dead || !Right(y) {
		t.Error(y)
	}
	y.Q.L = y.Q.L[:1]
	y = must(t)(Weak(y, 1, 0, -1))
	if c := y.S.S.Cells[2]; c.State != slab.Free || c.Gen != 3 || c.Val.Serial != 0 || !Right(y) {
		t.Error(y)
	}
}

// P15.4
func TestPair(t *testing.T) {
	x := made(t, 3)
	y := must(t)(Pair(x, 1, 2))
	if v, _ := ephem.Get(y.T, 1); v != 2 || strong(y, 2) != 1 || strong(y, 1) != 1 || len(ephem.Pairs(x.T)) != 0 {
		t.Error(y)
	}
	y = must(t)(Pair(y, 1, 1))
	if v, _ := ephem.Get(y.T, 1); v != 1 || strong(y, 2) != 0 || strong(y, 1) != 2 {
		t.Error(y)
	}
	if z := must(t)(Pair(y, 1, 0)); len(ephem.Pairs(z.T)) != 0 || strong(z, 1) != 1 {
		t.Error(z)
	}
	y = must(t)(Pair(y, 2, 3))
	for _, c := range []struct {
		key, val int
		e        api.Errno
	}{{0, 99, api.ErrNil}, {0, 0, api.ErrNil}, {99, 0, api.ErrStale}, {33, 1, api.ErrStale}, {1, 99, api.ErrStale}, {3, 1, api.ErrTable}, {3, 99, api.ErrStale}} {
		if z, e := Pair(y, c.key, c.val); e != c.e || !reflect.DeepEqual(z, y) {
			t.Error(c, z, e)
		}
	}
	if z := must(t)(Pair(y, 3, 0)); !reflect.DeepEqual(z, y) {
		t.Error(z)
	}
}

// P15.5: whatever is turned, heaps stay right.
func TestHeapsStayRight(t *testing.T) {
	seed := uint32(3)
	next := func(n int) int {
		seed = seed*1664525 + 1013904223
		return int(seed>>8) % n
	}
	for range 30 {
		x := New(5, 1, 2)
		for i := range 200 {
			switch next(5) {
			case 0:
				if s, h, e := store.Make(x.S, next(5), next(7)-1); e == api.OK {
					x.S = s
					x = must(t)(Root(x, next(6), h))
				}
			case 1:
				x, _ = Root(x, next(7), next(7))
			case 2:
				x, _ = Field(x, next(7), next(5), next(7))
			case 3:
				x, _ = Weak(x, next(7), next(7), next(7)-1)
			case 4:
				x, _ = Pair(x, next(7), next(7))
			}
			if !Right(x) {
				t.Fatal(i, x)
			}
		}
	}
}
