package trial

import (
	"math"
	"slices"
	"testing"

	"mortmain/api"
	"mortmain/ephem"
	"mortmain/fix"
	"mortmain/hash"
	"mortmain/slab"
	"mortmain/store"
)

type object struct {
	strong int
	fields []int
}

// built makes the objects in slots 0, 1, ..; the serials go against the slots.
func built(t *testing.T, objects ...object) store.Store {
	t.Helper()
	s := store.New(len(objects), 9)
	for i, o := range objects {
		var h int
		var e api.Errno
		if s, h, e = store.Make(s, len(o.fields), -1); e != api.OK {
			t.Fatal(e)
		}
		s, _ = store.Set(s, h, store.Obj{Serial: i + 1, Strong: o.strong, Prog: -1, Fields: o.fields})
	}
	for i := range s.S.Cells {
		s.S.Cells[i].Val.Serial = len(objects) - i
	}
	if !store.Right(s) {
		t.Fatal("not right", s)
	}
	return s
}

func table(t *testing.T, pairs ...ephem.Pair) []hash.Place {
	t.Helper()
	l := hash.New(8)
	for _, p := range pairs {
		var e api.Errno
		if l, e = hash.Put(l, p.Key, p.Val); e != api.OK {
			t.Fatal(p, e)
		}
	}
	return l
}

// P13.1
func TestInnerAndRest(t *testing.T) {
	s := built(t, object{5, []int{2, 1}}, object{3, []int{1, 99}}, object{0, nil})
	l := table(t, ephem.Pair{Key: 1, Val: 2}, ephem.Pair{Key: 77, Val: 2}, ephem.Pair{Key: 2, Val: 3}, ephem.Pair{Key: 3, Val: 99}, ephem.Pair{Key: 4, Val: 0})
	for _, c := range [][3]int{{1, 2, 3}, {2, 3, 0}, {3, 1, -1}, {0, 0, 0}, {99, 2, 0}, {33, 0, 0}, {-1, 0, 0}} {
		if Inner(s, l, c[0]) != c[1] || Rest(s, l, c[0]) != c[2] {
			t.Error(c, Inner(s, l, c[0]), Rest(s, l, c[0]))
		}
	}
	s.S, _ = slab.Kill(s.S, 2)
	if Inner(s, l, 1) != 1 || Rest(s, l, 2) != 0 {
		t.Error(Inner(s, l, 1), Rest(s, l, 2))
	}
}

// P13.2
func TestHeldAndGarbage(t *testing.T) {
	none := table(t)
	for i, c := range []struct {
		s             store.Store
		t             []hash.Place
		held, garbage []int
	}{
		{built(t, object{1, []int{2}}, object{1, []int{1}}), none, nil, []int{2, 1}},
		{built(t, object{2, []int{2}}, object{1, []int{1}}), none, []int{1}, nil},
		{built(t, object{1, []int{2}}, object{1, []int{1}}, object{1, nil}), none, []int{3}, []int{2, 1}},
		{built(t, object{12, []int{2}}, object{1, nil}, object{0, nil}), none, []int{1}, []int{3}},
		{built(t, object{math.MaxInt, []int{1}}), none, []int{1}, nil},
		{built(t, object{0, []int{2, 2}}, object{1, nil}), none, nil, []int{2, 1}},
		{built(t, object{1, nil}, object{1, nil}, object{1, nil}), table(t, ephem.Pair{Key: 1, Val: 2}, ephem.Pair{Key: 3, Val: 3}), []int{1}, []int{3}},
		{built(t, object{1, []int{2}}, object{1, nil}), table(t, ephem.Pair{Key: 2, Val: 1}), nil, []int{2, 1}},
		{store.New(3, 3), none, nil, nil},
	} {
		if held, garbage := Held(c.s, c.t), Garbage(c.s, c.t); !slices.Equal(held, c.held) || !slices.Equal(garbage, c.garbage) {
			t.Error(i, held, garbage)
		}
	}
}

// P13.2: twelve names from within leave nothing, but the count stays.
func TestStuckIsHeldThoughNothingIsLeft(t *testing.T) {
	l := []int{1, 1, 1, 1}
	s := built(t, object{12, l}, object{0, l}, object{0, l})
	if Rest(s, table(t), 1) != 0 || !slices.Equal(Held(s, table(t)), []int{1}) || !slices.Equal(Garbage(s, table(t)), []int{3, 2}) {
		t.Error(Held(s, table(t)), Garbage(s, table(t)))
	}
}

// P13.3
func TestFair(t *testing.T) {
	l := table(t, ephem.Pair{Key: 1, Val: 2})
	for i, c := range []struct {
		s     store.Store
		outer []int
		fair  bool
	}{
		{built(t, object{1, []int{2}}, object{2, nil}), []int{1}, true},
		{built(t, object{1, []int{2}}, object{2, nil}), []int{1, 0, 99}, true},
		{built(t, object{1, []int{2}}, object{2, nil}), []int{1, 1}, false},
		{built(t, object{1, []int{2}}, object{2, nil}), nil, false},
		{built(t, object{1, []int{2}}, object{1, nil}), []int{1}, false},
		{built(t, object{1, []int{2}}, object{3, nil}), []int{1}, false},
		{built(t, object{1, []int{2}}, object{4, nil}), []int{2, 1, 2}, true},
		{built(t, object{12, []int{2}}, object{40, nil}), nil, true},
		{built(t, object{11, nil}, object{1, nil}), nil, false},
		{built(t, object{0, nil}, object{1, nil}), nil, true},
		{store.New(2, 2), []int{1}, true},
	} {
		if fair := Fair(c.s, l, c.outer); fair != c.fair {
			t.Error(i, fair)
		}
	}
}

// P13.4
func TestGarbageIsWhatIsNotReachedFromOutside(t *testing.T) {
	seed := uint32(7)
	next := func(n int) int {
		seed = seed*1664525 + 1013904223
		return int(seed>>8) % n
	}
	for range 400 {
		n := 2 + next(6)
		l := hash.New(8)
		for range next(4) {
			l, _ = hash.Put(l, 1+next(n), 1+next(n))
		}
		var objects []object
		for range n {
			f := make([]int, next(4))
			for k := range f {
				f[k] = next(n + 1)
			}
			objects = append(objects, object{0, f})
		}
		var outer []int
		for range next(3) {
			outer = append(outer, 1+next(n))
		}
		s := built(t, objects...)
		from := slices.Clone(outer)
		for h := 1; h <= n; h++ {
			s.S.Cells[h-1].Val.Strong = Inner(s, l, h)
			for _, o := range outer {
				if o == h {
					s.S.Cells[h-1].Val.Strong++
				}
			}
			if next(9) == 0 {
				s.S.Cells[h-1].Val.Strong = 12
				from = append(from, h)
			}
		}
		if !Fair(s, l, outer) || !slices.Equal(Garbage(s, l), fix.Lost(s, l, from)) {
			t.Fatal(s, l, outer, Garbage(s, l), fix.Lost(s, l, from))
		}
	}
}
