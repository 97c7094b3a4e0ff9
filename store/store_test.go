package store

import (
	"math"
	"reflect"
	"slices"
	"testing"

	"mortmain/api"
	"mortmain/handle"
	"mortmain/slab"
)

func made(t *testing.T, n, last int, objects ...[2]int) (Store, []int) {
	t.Helper()
	s := New(n, last)
	var hs []int
	for _, o := range objects {
		var h int
		var e api.Errno
		if s, h, e = Make(s, o[0], o[1]); e != api.OK {
			t.Fatal(o, e)
		}
		hs = append(hs, h)
	}
	return s, hs
}

// P6.2
func TestNew(t *testing.T) {
	if s := New(3, 9); len(s.S.Cells) != 3 || s.S.Last != 9 || s.Serial != 0 || !Right(s) {
		t.Error(s)
	}
	for _, x := range [][2]int{{25, 0}, {-1, 0}, {2, 10}, {2, -1}} {
		if s := New(x[0], x[1]); len(s.S.Cells) != 0 || s.S.Last != 0 {
			t.Error(x, s)
		}
	}
}

// P6.2
func TestMake(t *testing.T) {
	s, hs := made(t, 2, 9, [2]int{4, -1}, [2]int{0, 5})
	if !slices.Equal(hs, []int{1, 2}) || s.Serial != 2 {
		t.Error(hs, s.Serial)
	}
	a, _ := Get(s, 1)
	b, _ := Get(s, 2)
	if !reflect.DeepEqual(a, Obj{Serial: 1, Prog: -1, Fields: make([]int, 4)}) || b.Serial != 2 || b.Prog != 5 || len(b.Fields) != 0 {
		t.Error(a, b)
	}
}

// P6.2: the first error that applies, and the store as it was.
func TestMakeErrors(t *testing.T) {
	full, _ := made(t, 1, 9, [2]int{0, -1})
	for _, c := range []struct {
		arity, prog int
		e           api.Errno
	}{
		{-1, 9, api.ErrArg}, {5, -2, api.ErrArg}, {math.MaxInt, 0, api.ErrArg}, {0, -2, api.ErrProg}, {4, 6, api.ErrProg},
		{0, math.MinInt, api.ErrProg}, {0, -1, api.ErrFull}, {4, 5, api.ErrFull},
	} {
		if s, h, e := Make(full, c.arity, c.prog); e != c.e || h != 0 || !reflect.DeepEqual(s, full) {
			t.Error(c, s, h, e)
		}
	}
}

// P6.3
func TestGetAndSet(t *testing.T) {
	s, hs := made(t, 2, 9, [2]int{1, 3})
	o := Obj{Serial: 1, Strong: 4, Weak: 2, Prog: 3, Started: true, Fields: []int{9}}
	r, e := Set(s, hs[0], o)
	if got, f := Get(r, hs[0]); e != api.OK || f != api.OK || !reflect.DeepEqual(got, o) || r.Serial != s.Serial {
		t.Error(got, e, f)
	}
	if got, _ := Get(s, hs[0]); got.Strong != 0 {
		t.Error("what was handed in is changed", got)
	}
	dead, _ := slab.Kill(s.S, hs[0])
	d := Store{dead, 1}
	if got, e := Get(d, hs[0]); e != api.ErrStale || !reflect.DeepEqual(got, Obj{}) {
		t.Error(got, e)
	}
	if r, e := Set(d, hs[0], o); e != api.OK || r.S.Cells[0].Val.Weak != 2 {
		t.Error(r, e)
	}
	for h, want := range map[int]api.Errno{0: api.ErrNil, 2: api.ErrStale, 33: api.ErrStale, -1: api.ErrStale} {
		got, e := Get(s, h)
		r, f := Set(s, h, o)
		if e != want || f != want || !reflect.DeepEqual(got, Obj{}) || !reflect.DeepEqual(r, s) {
			t.Error(h, got, e, f)
		}
	}
}

// P6.3
func TestFieldAndPut(t *testing.T) {
	s, hs := made(t, 2, 9, [2]int{2, -1}, [2]int{0, -1})
	r, e := Put(s, hs[0], 1, 77)
	if x, f := Field(r, hs[0], 1); x != 77 || e != api.OK || f != api.OK {
		t.Error(x, e, f)
	}
	o, _ := Get(r, hs[0])
	if !slices.Equal(o.Fields, []int{0, 77}) || o.Strong != 0 || o.Weak != 0 {
		t.Error(o)
	}
	if x, _ := Field(s, hs[0], 1); x != 0 {
		t.Error("what was handed in is changed", x)
	}
	for _, c := range []struct {
		h, k int
		e    api.Errno
	}{{0, 9, api.ErrNil}, {33, 9, api.ErrStale}, {hs[0], 2, api.ErrField}, {hs[0], -1, api.ErrField}, {hs[1], 0, api.ErrField}, {hs[0], math.MaxInt, api.ErrField}} {
		x, e := Field(r, c.h, c.k)
		p, f := Put(r, c.h, c.k, 5)
		if x != 0 || e != c.e || f != c.e || !reflect.DeepEqual(p, r) {
			t.Error(c, x, e, f)
		}
	}
}

// P6.3, P6.4
func TestLiveGoesBySerials(t *testing.T) {
	s, hs := made(t, 3, 9, [2]int{0, -1}, [2]int{0, -1}, [2]int{0, -1})
	s.S, _ = slab.Give(s.S, hs[0])
	s, h, _ := Make(s, 0, -1)
	if h != handle.Pack(0, 1) || !slices.Equal(Live(s), []int{hs[1], hs[2], h}) {
		t.Error(h, Live(s))
	}
	s.S, _ = slab.Kill(s.S, hs[1])
	if !slices.Equal(Live(s), []int{hs[2], h}) || len(Live(New(3, 0))) != 0 {
		t.Error(Live(s))
	}
	if o, _ := Get(s, h); o.Serial != 4 || s.Serial != 4 {
		t.Error(o, s.Serial)
	}
}

// P6.1
func TestRight(t *testing.T) {
	base := func() Store {
		return Store{slab.Slab[Obj]{Last: 3, Cells: []slab.Cell[Obj]{
			{State: slab.Live, Gen: 3, Val: Obj{Serial: 5, Strong: 12, Weak: 1, Prog: 5, Started: true, Fields: []int{99, -1, 0, 7}}},
			{State: slab.Dead, Gen: 0, Val: Obj{Serial: 1, Prog: -1}},
			{State: slab.Free, Gen: 2, Val: Obj{Fields: []int{}}},
			{State: slab.Retired, Gen: 3},
		}}, 5}
	}
	if !Right(base()) || !Right(Store{}) || !Right(New(24, 9)) {
		t.Error("right stores")
	}
	for i, spoil := range []func(s *Store){
		func(s *Store) { s.Serial = 4 },
		func(s *Store) { s.Serial = -1; s.S.Cells = nil },
		func(s *Store) { s.S.Last = 10 },
		func(s *Store) { s.S.Last = 2 },
		func(s *Store) { s.S.Last = -1; s.S.Cells = nil },
		func(s *Store) { s.S.Cells = append(s.S.Cells, make([]slab.Cell[Obj], 21)...) },
		func(s *Store) { s.S.Cells[0].State = 4 },
		func(s *Store) { s.S.Cells[2].State = -1 },
		func(s *Store) { s.S.Cells[1].Gen = -1 },
		func(s *Store) { s.S.Cells[2].Gen = 4 },
		func(s *Store) { s.S.Cells[0].Val.Serial = 1 },
		func(s *Store) { s.S.Cells[0], s.S.Cells[3] = s.S.Cells[3], s.S.Cells[0]; s.S.Cells[1].Val.Serial = 5 },
		func(s *Store) { s.S.Cells[0].Val.Serial = 6 },
		func(s *Store) { s.S.Cells[1].Val.Serial = 0 },
		func(s *Store) { s.S.Cells[0].Val.Strong = -1 },
		func(s *Store) { s.S.Cells[1].Val.Weak = -1 },
		func(s *Store) { s.S.Cells[0].Val.Prog = 6 },
		func(s *Store) { s.S.Cells[1].Val.Prog = -2 },
		func(s *Store) { s.S.Cells[0].Val.Fields = make([]int, 5) },
		func(s *Store) { s.S.Cells[2].Val.Serial = 2 },
		func(s *Store) { s.S.Cells[2].Val.Strong = 1 },
		func(s *Store) { s.S.Cells[3].Val.Weak = 1 },
		func(s *Store) { s.S.Cells[3].Val.Prog = -1 },
		func(s *Store) { s.S.Cells[2].Val.Started = true },
		func(s *Store) { s.S.Cells[3].Val.Fields = []int{0} },
	} {
		s := base()
		if spoil(&s); Right(s) {
			t.Error("spoilt", i, s)
		}
	}
}

// P6.4
func TestSerialsRiseAndStoresStayRight(t *testing.T) {
	s := New(2, 9)
	for i := 1; i <= 20; i++ {
		var h int
		var e api.Errno
		if s, h, e = Make(s, i%5, i%7-1); e != api.OK {
			t.Fatal(i, e)
		}
		if o, _ := Get(s, h); o.Serial != i || !Right(s) {
			t.Error(i, o)
		}
		s.S, _ = slab.Give(s.S, h)
	}
	if s, h, e := Make(s, 0, -1); e != api.ErrFull || h != 0 || s.Serial != 20 {
		t.Error(s, h, e)
	}
}
