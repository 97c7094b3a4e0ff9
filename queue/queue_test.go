package queue

import (
	"math"
	"slices"
	"testing"

	"mortmain/api"
)

func filled(cap int, xs ...int) Queue[int] {
	q := New[int](cap)
	for _, x := range xs {
		q, _ = Push(q, x)
	}
	return q
}

// P2.1
func TestNewIsEmptyOfItsCap(t *testing.T) {
	for _, cap := range []int{0, 1, 30, -1, math.MinInt, math.MaxInt} {
		if q := New[string](cap); q.Cap != cap || Len(q) != 0 || len(q.L) != 0 {
			t.Error(cap, q)
		}
	}
	if n := Len(Queue[int]{L: []int{1, 2, 3}}); n != 3 {
		t.Error(n)
	}
}

// P2.2
func TestPushTillFull(t *testing.T) {
	q := New[int](2)
	for i, want := range []api.Errno{api.OK, api.OK, api.ErrFull, api.ErrFull} {
		var e api.Errno
		if q, e = Push(q, i); e != want || q.Cap != 2 {
			t.Error(i, q, e)
		}
	}
	if !slices.Equal(q.L, []int{0, 1}) {
		t.Error(q)
	}
	for _, cap := range []int{0, -1, math.MinInt} {
		if r, e := Push(New[int](cap), 7); e != api.ErrFull || Len(r) != 0 || r.Cap != cap {
			t.Error(cap, r, e)
		}
	}
	over := Queue[int]{L: []int{1, 2, 3}, Cap: 2}
	if r, e := Push(over, 4); e != api.ErrFull || !slices.Equal(r.L, []int{1, 2, 3}) {
		t.Error(r, e)
	}
}

// P2.2
func TestPop(t *testing.T) {
	q, x, e := Pop(filled(3, 1, 2))
	if x != 1 || e != api.OK || !slices.Equal(q.L, []int{2}) || q.Cap != 3 {
		t.Error(q, x, e)
	}
	q, x, e = Pop(q)
	if x != 2 || e != api.OK || Len(q) != 0 {
		t.Error(q, x, e)
	}
	q, x, e = Pop(q)
	if x != 0 || e != api.ErrEmpty || Len(q) != 0 || q.Cap != 3 {
		t.Error(q, x, e)
	}
}

// P2.3
func TestDrain(t *testing.T) {
	for _, c := range []struct {
		n          int
		rest, gone []int
	}{
		{math.MinInt, []int{1, 2, 3}, nil}, {-1, []int{1, 2, 3}, nil}, {0, []int{1, 2, 3}, nil},
		{1, []int{2, 3}, []int{1}}, {2, []int{3}, []int{1, 2}}, {3, nil, []int{1, 2, 3}},
		{4, nil, []int{1, 2, 3}}, {math.MaxInt, nil, []int{1, 2, 3}},
	} {
		q, l := Drain(filled(5, 1, 2, 3), c.n)
		if !slices.Equal(q.L, c.rest) || !slices.Equal(l, c.gone) || q.Cap != 5 {
			t.Error(c.n, q, l)
		}
	}
}

// P2.4
func TestFirstInFirstOut(t *testing.T) {
	q := New[int](100)
	for i := range 100 {
		q, _ = Push(q, i)
	}
	for i := range 100 {
		var x int
		if q, x, _ = Pop(q); x != i {
			t.Error(i, x)
		}
	}
}

// R4: queues that come of one queue do not write over each other.
func TestWhatIsPushedStaysApart(t *testing.T) {
	room := make([]int, 1, 10)
	q := Queue[int]{L: room, Cap: 10}
	a, _ := Push(q, 1)
	b, _ := Push(q, 2)
	if a.L[1] != 1 || b.L[1] != 2 || room[:2][1] != 0 {
		t.Error(a, b, room[:2])
	}
	rest, first := Drain(filled(10, 1, 2, 3), 1)
	_ = append(first, 9)
	if rest.L[0] != 2 {
		t.Error(rest)
	}
	empty, _ := Drain(Queue[int]{L: room[:0], Cap: 10}, 0)
	empty, _ = Push(empty, 5)
	if room[0] != 0 {
		t.Error(room, empty)
	}
}
