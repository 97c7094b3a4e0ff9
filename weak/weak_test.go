package weak

import (
	"math"
	"slices"
	"testing"

	"mortmain/api"
)

// P9.1
func TestNew(t *testing.T) {
	for n := range 7 {
		l := New(n)
		if len(l) != n {
			t.Error(n, l)
		}
		for _, c := range l {
			if c != (Cell{Call: -1}) {
				t.Error(c)
			}
		}
	}
	for _, n := range []int{-1, 7, math.MinInt, math.MaxInt} {
		if l := New(n); len(l) != 0 {
			t.Error(n, l)
		}
	}
}

// P9.1
func TestSet(t *testing.T) {
	l := []Cell{{3, true, 2}, {4, false, -1}, {0, false, 0}}
	before := slices.Clone(l)
	for _, c := range []struct {
		w, h, call int
		cell       Cell
		old        int
	}{{0, 9, 5, Cell{9, true, 5}, 3}, {1, 0, 3, Cell{0, false, 3}, 4}, {2, 7, -1, Cell{7, true, -1}, 0}, {0, 3, 1, Cell{3, true, 1}, 3}, {1, -8, 77, Cell{-8, true, 77}, 4}} {
		r, old, e := Set(l, c.w, c.h, c.call)
		want := slices.Clone(before)
		want[c.w] = c.cell
		if e != api.OK || old != c.old || !slices.Equal(r, want) || !slices.Equal(l, before) {
			t.Error(c, r, old, e)
		}
	}
	for _, w := range []int{-1, 3, math.MinInt, math.MaxInt} {
		if r, old, e := Set(l, w, 9, 0); e != api.ErrCell || old != 0 || !slices.Equal(r, before) {
			t.Error(w, r, old, e)
		}
	}
}

// P9.2
func TestLoad(t *testing.T) {
	l := []Cell{{3, true, -1}, {4, false, 0}, {0, false, 0}, {0, true, 0}}
	for _, c := range []struct {
		w, h int
		e    api.Errno
	}{{0, 3, api.OK}, {1, 0, api.ErrNone}, {2, 0, api.ErrNone}, {3, 0, api.ErrNone}, {-1, 0, api.ErrCell}, {4, 0, api.ErrCell}, {math.MaxInt, 0, api.ErrCell}} {
		if h, e := Load(l, c.w); h != c.h || e != c.e {
			t.Error(c, h, e)
		}
	}
}

// P9.2
func TestClear(t *testing.T) {
	l := []Cell{{3, true, 0}, {4, true, 5}, {3, true, -1}, {3, false, 2}, {0, true, 1}, {3, true, 4}}
	before := slices.Clone(l)
	for _, c := range []struct {
		hs      []int
		cleared []int
		called  []int
	}{
		{nil, nil, nil},
		{[]int{3}, []int{0, 2, 5}, []int{0, 5}},
		{[]int{4, 3, 4}, []int{0, 1, 2, 5}, []int{0, 1, 5}},
		{[]int{0}, nil, nil},
		{[]int{8, -1, 0, 4}, []int{1}, []int{1}},
	} {
		r, called := Clear(l, c.hs)
		want := slices.Clone(before)
		for _, w := range c.cleared {
			want[w].Intact = false
		}
		if !slices.Equal(r, want) || !slices.Equal(called, c.called) || !slices.Equal(l, before) {
			t.Error(c, r, called)
		}
	}
}

// P9.3
func TestNamingAndIntact(t *testing.T) {
	l := []Cell{{3, true, 0}, {3, false, 0}, {0, false, -1}, {0, true, 0}, {-2, true, 0}, {3, true, 1}}
	for _, c := range [][3]int{{3, 3, 2}, {0, 0, 0}, {-2, 1, 1}, {5, 0, 0}} {
		if Naming(l, c[0]) != c[1] || Intact(l, c[0]) != c[2] {
			t.Error(c, Naming(l, c[0]), Intact(l, c[0]))
		}
	}
}

// P9.4
func TestWhatWasClearedIsNotLoaded(t *testing.T) {
	l := New(6)
	for w := range l {
		l, _, _ = Set(l, w, 1+w%2, w%3-1)
	}
	l, _ = Clear(l, []int{1})
	for w := range l {
		h, e := Load(l, w)
		if w%2 == 0 && (h != 0 || e != api.ErrNone) || w%2 == 1 && (h != 2 || e != api.OK) {
			t.Error(w, h, e)
		}
	}
	if _, called := Clear(l, []int{1}); len(called) != 0 {
		t.Error("called twice", called)
	}
	if l, _, _ = Set(l, 0, 1, -1); l[0] != (Cell{1, true, -1}) {
		t.Error(l)
	}
	if h, e := Load(l, 0); h != 1 || e != api.OK {
		t.Error(h, e)
	}
}
