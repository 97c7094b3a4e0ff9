package task

import (
	"slices"
	"testing"

	"mortmain/api"
)

func queued(ts ...Task) Queue {
	q := New()
	for _, t := range ts {
		q, _ = Add(q, t)
	}
	return q
}

// P14.1
func TestNewAddNext(t *testing.T) {
	if q := New(); q.Cap != 30 || len(q.L) != 0 {
		t.Error(q)
	}
	q := New()
	for i := range 30 {
		var e api.Errno
		if q, e = Add(q, Task{Final, i, i % 6}); e != api.OK {
			t.Error(i, e)
		}
	}
	if r, e := Add(q, Task{Call, 1, 1}); e != api.ErrFull || !slices.Equal(r.L, q.L) || r.Cap != 30 {
		t.Error(r, e)
	}
	if r, x, e := Next(New()); e != api.ErrEmpty || x != (Task{}) || len(r.L) != 0 || r.Cap != 30 {
		t.Error(r, x, e)
	}
}

// P14.2
func TestHeldWaitsCount(t *testing.T) {
	q := queued(Task{Final, 3, 0}, Task{Call, 1, 2}, Task{Final, 4, 5}, Task{7, 5, 0}, Task{Call, 0, 0}, Task{Final, 3, 1})
	if l := Held(q); !slices.Equal(l, []int{3, 4, 3}) {
		t.Error(l)
	}
	for w, want := range map[int]bool{0: true, 1: true, 3: false, 4: false, 5: false, -1: false} {
		if Waits(q, w) != want {
			t.Error(w)
		}
	}
	for kind, want := range map[int]int{Final: 3, Call: 2, 7: 1, 0: 0, -1: 0} {
		if n := Count(q, kind); n != want {
			t.Error(kind, n)
		}
	}
	if len(Held(New())) != 0 || Waits(New(), 0) || Count(New(), Final) != 0 {
		t.Error("of no tasks")
	}
}

// P14.3
func TestTasksComeInTheirOrder(t *testing.T) {
	l := []Task{{Call, 1, 2}, {Final, 3, 0}, {Call, 0, 4}, {Final, 9, 1}}
	q := queued(l...)
	for i, want := range l {
		var x Task
		var e api.Errno
		if q, x, e = Next(q); x != want || e != api.OK {
			t.Error(i, x, e)
		}
	}
	if _, _, e := Next(q); e != api.ErrEmpty {
		t.Error(e)
	}
}
