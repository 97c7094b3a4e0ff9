package hash

import (
	"math"
	"math/big"
	"slices"
	"testing"

	"mortmain/api"
)

// P10.1
func TestHome(t *testing.T) {
	for _, x := range [][3]int{{8, 0, 1}, {8, 1, 6}, {8, 8, 1}, {1, 77, 0}, {3, -1, 2}, {7, -3, 0}, {0, 5, 0}, {-4, 5, 0}, {math.MinInt, 5, 0}, {math.MaxInt, 2, 11}, {math.MaxInt, -2, math.MaxInt - 9}} {
		if home := Home(x[0], x[1]); home != x[2] {
			t.Error(x, home)
		}
	}
	// Five times what is great goes round at 2^64, ahead of the remainder.
	for _, k := range []int{math.MaxInt, math.MinInt, math.MaxInt/5 + 1, math.MinInt/5 - 1, math.MaxInt - 3, math.MaxInt / 5, math.MinInt / 5} {
		sum := new(big.Int).Add(new(big.Int).Mul(big.NewInt(5), big.NewInt(int64(k))), big.NewInt(1))
		half := new(big.Int).Lsh(big.NewInt(1), 63)
		whole := new(big.Int).Lsh(big.NewInt(1), 64)
		sum.Add(sum, half).Mod(sum, whole).Sub(sum, half)
		for n := 1; n <= 9; n++ {
			want := new(big.Int).Mod(sum, big.NewInt(int64(n))).Int64()
			if home := Home(n, k); int64(home) != want {
				t.Error(n, k, home, want)
			}
		}
	}
}

// P10.2
func TestNew(t *testing.T) {
	for n := 1; n <= 8; n++ {
		if l := New(n); !slices.Equal(l, make([]Place, n)) || !Right(l) || len(Keys(l)) != 0 {
			t.Error(n, l)
		}
	}
	for _, n := range []int{0, -1, 9, math.MinInt, math.MaxInt} {
		if l := New(n); len(l) != 0 {
			t.Error(n, l)
		}
	}
}

// P10.1
func TestRight(t *testing.T) {
	for _, c := range []struct {
		l     []Place
		right bool
	}{
		{nil, false},
		{make([]Place, 9), false},
		{[]Place{{Full, 3, 4}}, true},
		{[]Place{{Gone, 0, 0}}, true},
		{[]Place{{3, 0, 0}}, false},
		{[]Place{{-1, 0, 0}}, false},
		{[]Place{{Free, 1, 0}}, false},
		{[]Place{{Free, 0, 1}}, false},
		{[]Place{{Gone, 1, 0}}, false},
		{[]Place{{Gone, 0, 1}}, false},
		// the home of 0 in three places is 1, that of 1 is 0
		{[]Place{{}, {Full, 0, 0}, {}}, true},
		{[]Place{{}, {}, {Full, 0, 0}}, false},
		{[]Place{{}, {Gone, 0, 0}, {Full, 0, 5}}, true},
		{[]Place{{Full, 0, 5}, {Gone, 0, 0}, {}}, false},
		{[]Place{{Full, 0, 5}, {Gone, 0, 0}, {Gone, 0, 0}}, true},
		{[]Place{{Full, 0, 5}, {Full, 3, 0}, {Full, 6, 0}}, true},
		{[]Place{{}, {Full, 0, 5}, {Full, 0, 5}}, false},
		{[]Place{{Full, 0, 5}, {Full, 0, 6}, {Full, 3, 1}}, false},
		{[]Place{{Full, 1, 5}, {Full, 0, 6}, {}}, true},
	} {
		if right := Right(c.l); right != c.right {
			t.Error(c, right)
		}
	}
}

// P10.2
func TestFindGetKeys(t *testing.T) {
	l := []Place{{Full, 0, 5}, {Gone, 0, 0}, {Full, 3, 0}}
	for _, c := range []struct {
		k, p, v int
		e       api.Errno
	}{{0, 0, 5, api.OK}, {3, 2, 0, api.OK}, {6, -1, 0, api.ErrNone}, {-1, -1, 0, api.ErrNone}, {math.MaxInt, -1, 0, api.ErrNone}} {
		v, e := Get(l, c.k)
		if p := Find(l, c.k); p != c.p || v != c.v || e != c.e {
			t.Error(c, p, v, e)
		}
	}
	if keys := Keys(l); !slices.Equal(keys, []int{0, 3}) {
		t.Error(keys)
	}
	if Find(nil, 3) != -1 {
		t.Error("in no table")
	}
}

// P10.3
func TestPut(t *testing.T) {
	l := New(3)
	for _, c := range []struct {
		k, v int
		e    api.Errno
		want []Place
	}{
		{0, 5, api.OK, []Place{{}, {Full, 0, 5}, {}}},
		{3, 6, api.OK, []Place{{}, {Full, 0, 5}, {Full, 3, 6}}},
		{0, 7, api.OK, []Place{{}, {Full, 0, 7}, {Full, 3, 6}}},
		{-3, 0, api.OK, []Place{{Full, -3, 0}, {Full, 0, 7}, {Full, 3, 6}}},
		{1, 9, api.ErrTable, []Place{{Full, -3, 0}, {Full, 0, 7}, {Full, 3, 6}}},
		{3, 9, api.OK, []Place{{Full, -3, 0}, {Full, 0, 7}, {Full, 3, 9}}},
	} {
		before := slices.Clone(l)
		r, e := Put(l, c.k, c.v)
		if e != c.e || !slices.Equal(r, c.want) || !slices.Equal(l, before) {
			t.Error(c, r, e)
		}
		l = r
	}
}

// P10.3: what is Gone is filled again, but not while the key stands behind it.
func TestPutOverWhatIsGone(t *testing.T) {
	l := []Place{{}, {Gone, 0, 0}, {Full, 0, 5}}
	if r, e := Put(l, 0, 6); e != api.OK || !slices.Equal(r, []Place{{}, {Gone, 0, 0}, {Full, 0, 6}}) {
		t.Error(r, e)
	}
	if r, e := Put(l, 3, 6); e != api.OK || !slices.Equal(r, []Place{{}, {Full, 3, 6}, {Full, 0, 5}}) {
		t.Error(r, e)
	}
}

// P10.3
func TestDrop(t *testing.T) {
	l := []Place{{}, {Full, 0, 5}, {Full, 3, 6}}
	before := slices.Clone(l)
	if r, v, e := Drop(l, 0); v != 5 || e != api.OK || !slices.Equal(r, []Place{{}, {Gone, 0, 0}, {Full, 3, 6}}) {
		t.Error(r, v, e)
	}
	if r, v, e := Drop(l, 6); v != 0 || e != api.ErrNone || !slices.Equal(r, before) {
		t.Error(r, v, e)
	}
	if !slices.Equal(l, before) {
		t.Error("what was handed in is changed", l)
	}
}

// P10.4
func TestTablesStayRight(t *testing.T) {
	seed := uint32(1)
	next := func(n int) int {
		seed = seed*1664525 + 1013904223
		return int(seed>>8) % n
	}
	for n := 1; n <= 8; n++ {
		l := New(n)
		kept := map[int]int{}
		for i := range 2000 {
			k := next(12) - 2
			_, there := kept[k]
			if next(2) == 0 {
				r, e := Put(l, k, i)
				if full := !there && len(kept) == n; full != (e == api.ErrTable) {
					t.Fatal(n, k, e, l)
				}
				if e == api.OK {
					kept[k] = i
				}
				l = r
			} else {
				r, v, e := Drop(l, k)
				if v != kept[k] || there != (e == api.OK) {
					t.Fatal(n, k, v, e, l)
				}
				delete(kept, k)
				l = r
			}
			if !Right(l) || len(Keys(l)) != len(kept) {
				t.Fatal(n, l)
			}
			for k, want := range kept {
				if v, e := Get(l, k); v != want || e != api.OK || l[Find(l, k)] != (Place{Full, k, want}) {
					t.Fatal(n, k, v, e, l)
				}
			}
		}
	}
}
