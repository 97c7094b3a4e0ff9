package vec

import (
	"math"
	"slices"
	"testing"

	"mortmain/api"
)

// P5.1
func TestNew(t *testing.T) {
	for n := range 5 {
		if v, e := New(n); e != api.OK || !slices.Equal(v, make([]int, n)) {
			t.Error(n, v, e)
		}
	}
	for _, n := range []int{-1, 5, math.MinInt, math.MaxInt} {
		if v, e := New(n); e != api.ErrArg || len(v) != 0 {
			t.Error(n, v, e)
		}
	}
}

// P5.1
func TestAt(t *testing.T) {
	v := []int{4, 0, -6}
	for k, want := range v {
		if h, e := At(v, k); h != want || e != api.OK {
			t.Error(k, h, e)
		}
	}
	for _, k := range []int{-1, 3, math.MinInt, math.MaxInt} {
		if h, e := At(v, k); h != 0 || e != api.ErrField {
			t.Error(k, h, e)
		}
	}
	if h, e := At(nil, 0); h != 0 || e != api.ErrField {
		t.Error(h, e)
	}
}

// P5.1, P5.3
func TestWithSetsOneField(t *testing.T) {
	v := []int{1, 2, 3, 4}
	for k := range v {
		w, e := With(v, k, 9)
		want := []int{1, 2, 3, 4}
		want[k] = 9
		if e != api.OK || !slices.Equal(w, want) || !slices.Equal(v, []int{1, 2, 3, 4}) {
			t.Error(k, w, e, v)
		}
	}
	for _, k := range []int{-1, 4, math.MinInt, math.MaxInt} {
		if w, e := With(v, k, 9); e != api.ErrField || !slices.Equal(w, v) {
			t.Error(k, w, e)
		}
	}
}

// P5.2
func TestNames(t *testing.T) {
	for _, c := range [][2][]int{{{0, 7, 0, 7}, {7, 7}}, {{3, 0, -2, 3}, {3, -2, 3}}, {{0, 0}, nil}, {nil, nil}} {
		if l := Names(c[0]); !slices.Equal(l, c[1]) {
			t.Error(c, l)
		}
	}
}

// P5.2
func TestCount(t *testing.T) {
	v := []int{0, 7, 0, 7, -1}
	for _, c := range [][2]int{{7, 2}, {0, 0}, {-1, 1}, {5, 0}} {
		if n := Count(v, c[0]); n != c[1] {
			t.Error(c, n)
		}
	}
	if Count(nil, 7) != 0 {
		t.Error("of no fields")
	}
}
