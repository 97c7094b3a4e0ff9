package refs

import (
	"slices"
	"testing"

	"mortmain/api"
	"mortmain/slab"
	"mortmain/store"
)

// built makes an object for each list, in slots 0, 1, .., with its fields; the
// objects stand in a store whose serials go against its slots.
func built(t *testing.T, fields ...[]int) store.Store {
	t.Helper()
	s := store.New(len(fields), 9)
	for _, f := range fields {
		var h int
		var e api.Errno
		if s, h, e = store.Make(s, len(f), -1); e != api.OK {
			t.Fatal(e)
		}
		for k, x := range f {
			s, _ = store.Put(s, h, k, x)
		}
	}
	for i := range s.S.Cells {
		s.S.Cells[i].Val.Serial = len(fields) - i
	}
	if !store.Right(s) {
		t.Fatal("not right", s)
	}
	return s
}

// P7.1
func TestOut(t *testing.T) {
	s := built(t, []int{0, 2, 0, 2}, []int{33, 1}, nil)
	for _, c := range []struct {
		h int
		l []int
	}{{1, []int{2, 2}}, {2, []int{33, 1}}, {3, nil}, {0, nil}, {33, nil}, {4, nil}, {-1, nil}} {
		if l := Out(s, c.h); !slices.Equal(l, c.l) {
			t.Error(c, l)
		}
	}
	s.S, _ = slab.Kill(s.S, 1)
	if l := Out(s, 1); len(l) != 0 {
		t.Error(l)
	}
}

// P7.1
func TestIn(t *testing.T) {
	s := built(t, []int{2, 2, 0, 1}, []int{2, 99}, []int{0})
	for _, c := range [][2]int{{1, 1}, {2, 3}, {3, 0}, {0, 0}, {99, 1}, {-1, 0}} {
		if n := In(s, c[0]); n != c[1] {
			t.Error(c, n)
		}
	}
	s.S, _ = slab.Kill(s.S, 1)
	if In(s, 2) != 1 || In(s, 1) != 0 {
		t.Error(In(s, 2), In(s, 1))
	}
}

// P7.1
func TestByTellsEachOnceByItsSerial(t *testing.T) {
	s := built(t, []int{3, 3, 1}, []int{1, 3}, []int{3, 0, 3})
	for _, c := range []struct {
		h int
		l []int
	}{{3, []int{3, 2, 1}}, {1, []int{2, 1}}, {2, nil}, {0, nil}, {77, nil}} {
		if l := By(s, c.h); !slices.Equal(l, c.l) {
			t.Error(c, l)
		}
	}
}

// P7.2
func TestTimes(t *testing.T) {
	l := []int{0, 4, 4, -1, 0}
	for _, c := range [][2]int{{4, 2}, {0, 0}, {-1, 1}, {8, 0}} {
		if n := Times(l, c[0]); n != c[1] {
			t.Error(c, n)
		}
	}
	if Times(nil, 1) != 0 {
		t.Error("of none")
	}
}

// P7.2
func TestDangling(t *testing.T) {
	s := built(t, []int{0, 50, 2, 50}, []int{1, -3, 33}, []int{2})
	if l := Dangling(s); !slices.Equal(l, []int{-3, 33, 50, 50}) {
		t.Error(l)
	}
	s.S, _ = slab.Kill(s.S, 2)
	if l := Dangling(s); !slices.Equal(l, []int{2, 50, 2, 50}) {
		t.Error(l)
	}
	if l := Dangling(store.New(3, 0)); len(l) != 0 {
		t.Error(l)
	}
}

// P7.3
func TestAsManyNamesGoOutAsComeIn(t *testing.T) {
	s := built(t, []int{1, 2, 3, 2}, []int{3, 90}, []int{0, 1, 0, 0})
	out, in := 0, 0
	for _, h := range []int{1, 2, 3} {
		out += len(Out(s, h))
		in += In(s, h)
	}
	if out != in+len(Dangling(s)) || out != 7 {
		t.Error(out, in)
	}
}
