package ephem

import (
	"slices"
	"testing"

	"mortmain/api"
	"mortmain/hash"
)

func table(t *testing.T, n int, pairs ...Pair) []hash.Place {
	t.Helper()
	l := hash.New(n)
	for _, p := range pairs {
		var e api.Errno
		if l, e = hash.Put(l, p.Key, p.Val); e != api.OK {
			t.Fatal(p, e)
		}
	}
	return l
}

// P11.1
func TestSet(t *testing.T) {
	l := table(t, 2, Pair{1, 9})
	before := slices.Clone(l)
	for _, c := range []struct {
		key, val, old int
		e             api.Errno
		pairs         []Pair
	}{
		{0, 4, 0, api.ErrNil, []Pair{{1, 9}}}, {0, 0, 0, api.ErrNil, []Pair{{1, 9}}},
		{1, 4, 9, api.OK, []Pair{{1, 4}}}, {1, 9, 9, api.OK, []Pair{{1, 9}}}, {1, 0, 9, api.OK, nil},
		{7, 0, 0, api.OK, []Pair{{1, 9}}}, {2, 4, 0, api.OK, []Pair{{1, 9}, {2, 4}}},
	} {
		r, old, e := Set(l, c.key, c.val)
		got := Pairs(r)
		slices.SortFunc(got, func(a, b Pair) int { return a.Key - b.Key })
		if old != c.old || e != c.e || !slices.Equal(got, c.pairs) || !slices.Equal(l, before) || !hash.Right(r) {
			t.Error(c, r, old, e)
		}
	}
	if r, _, _ := Set(l, 7, 0); !slices.Equal(r, l) {
		t.Error("a key that is not there changes the table", r)
	}
}

// P11.1
func TestSetOfAFullTable(t *testing.T) {
	l := table(t, 2, Pair{1, 9}, Pair{2, 8})
	if r, old, e := Set(l, 3, 7); e != api.ErrTable || old != 0 || !slices.Equal(r, l) {
		t.Error(r, old, e)
	}
	if r, old, e := Set(l, 3, 0); e != api.OK || old != 0 || !slices.Equal(r, l) {
		t.Error(r, old, e)
	}
	if r, old, e := Set(l, 2, 7); e != api.OK || old != 8 || Owned(r, 7) != 1 || Owned(r, 8) != 0 {
		t.Error(r, old, e)
	}
}

// P11.1
func TestGet(t *testing.T) {
	l := table(t, 3, Pair{1, 9}, Pair{-4, 8})
	for _, c := range []struct {
		key, val int
		e        api.Errno
	}{{1, 9, api.OK}, {-4, 8, api.OK}, {9, 0, api.ErrNone}, {0, 0, api.ErrNone}} {
		if val, e := Get(l, c.key); val != c.val || e != c.e {
			t.Error(c, val, e)
		}
	}
}

// P11.2: in eight places the homes of 0, 1, 2 and 8 are 1, 6, 3 and 1.
func TestPairsAndOwned(t *testing.T) {
	l := table(t, 8, Pair{1, 9}, Pair{2, 9}, Pair{0, 0}, Pair{8, 5})
	if p := Pairs(l); !slices.Equal(p, []Pair{{0, 0}, {8, 5}, {2, 9}, {1, 9}}) {
		t.Error(p)
	}
	for _, c := range [][2]int{{9, 2}, {5, 1}, {0, 0}, {8, 0}, {1, 0}} {
		if n := Owned(l, c[0]); n != c[1] {
			t.Error(c, n)
		}
	}
	if len(Pairs(hash.New(4))) != 0 {
		t.Error("pairs of nothing")
	}
}

// P11.2
func TestWithout(t *testing.T) {
	l := table(t, 8, Pair{1, 9}, Pair{2, 9}, Pair{3, 7}, Pair{0, 6})
	before := slices.Clone(l)
	r, vals := Without(l, []int{3, 99, 1, 3, 0})
	if !slices.Equal(vals, []int{7, 9, 6}) || !slices.Equal(Pairs(r), []Pair{{2, 9}}) || !hash.Right(r) {
		t.Error(r, vals)
	}
	if r, vals := Without(l, []int{99}); len(vals) != 0 || !slices.Equal(r, before) {
		t.Error(r, vals)
	}
	if r, vals := Without(l, nil); len(vals) != 0 || !slices.Equal(r, before) || !slices.Equal(l, before) {
		t.Error(r, vals)
	}
}

// P11.3
func TestNothingIsOwnedButByAKeyThatStands(t *testing.T) {
	l := table(t, 4, Pair{1, 9}, Pair{2, 9}, Pair{3, 8})
	keys := []int{1, 2, 3}
	for i := range keys {
		l, _ = Without(l, keys[i:i+1])
		for _, h := range []int{8, 9} {
			n := 0
			for _, key := range keys {
				if val, e := Get(l, key); e == api.OK && val == h {
					n++
				}
			}
			if Owned(l, h) != n {
				t.Error(i, h, Owned(l, h), n)
			}
		}
	}
	if Owned(l, 9) != 0 || Owned(l, 8) != 0 {
		t.Error(l)
	}
}
