package slab

import (
	"math"
	"reflect"
	"testing"

	"mortmain/api"
	"mortmain/handle"
)

// mixed has a cell of each state: 0 is Dead, 1 Retired, 2 Live, 3 and 4 Free.
func mixed() Slab[string] {
	return Slab[string]{Cells: []Cell[string]{{Dead, 1, "d"}, {Retired, 3, ""}, {Live, 2, "l"}, {Free, 1, ""}, {Free, 0, ""}}, Last: 3}
}

// P3.1
func TestNew(t *testing.T) {
	for _, n := range []int{0, 1, 24} {
		for _, last := range []int{0, 9} {
			s := New[string](n, last)
			if len(s.Cells) != n || s.Last != last || Tally(s) != [4]int{n} {
				t.Error(n, last, s)
			}
			for _, c := range s.Cells {
				if c != (Cell[string]{}) {
					t.Error(c)
				}
			}
		}
	}
	for _, x := range [][2]int{{-1, 0}, {25, 0}, {0, -1}, {3, 10}, {math.MaxInt, 1}, {math.MinInt, 1}, {1, math.MaxInt}} {
		if s := New[int](x[0], x[1]); len(s.Cells) != 0 || s.Last != 0 {
			t.Error(x, s)
		}
	}
}

// P3.1
func TestTally(t *testing.T) {
	if n := Tally(mixed()); n != [4]int{2, 1, 1, 1} {
		t.Error(n)
	}
}

// P3.2
func TestTakeTheFirstThatIsFree(t *testing.T) {
	s, h, e := Take(mixed(), "x")
	if h != handle.Pack(3, 1) || e != api.OK || s.Cells[3] != (Cell[string]{Live, 1, "x"}) || s.Last != 3 {
		t.Error(s, h, e)
	}
	s, h, e = Take(s, "y")
	if h != handle.Pack(4, 0) || e != api.OK || s.Cells[4] != (Cell[string]{Live, 0, "y"}) {
		t.Error(s, h, e)
	}
	full, h, e := Take(s, "z")
	if h != 0 || e != api.ErrFull || !reflect.DeepEqual(full, s) {
		t.Error(full, h, e)
	}
	if s, h, e := Take(New[int](0, 0), 1); h != 0 || e != api.ErrFull || len(s.Cells) != 0 {
		t.Error(s, h, e)
	}
}

// P3.2
func TestFind(t *testing.T) {
	s := mixed()
	for _, c := range []struct {
		h, place int
		e        api.Errno
	}{
		{0, -1, api.ErrNil},
		{handle.Pack(0, 1), 0, api.OK}, {handle.Pack(2, 2), 2, api.OK},
		{handle.Pack(0, 0), -1, api.ErrStale}, {handle.Pack(2, 1), -1, api.ErrStale}, {handle.Pack(2, 3), -1, api.ErrStale},
		{handle.Pack(1, 3), -1, api.ErrStale}, {handle.Pack(3, 1), -1, api.ErrStale}, {handle.Pack(5, 0), -1, api.ErrStale},
		{-1, -1, api.ErrStale}, {25, -1, api.ErrStale}, {math.MaxInt, -1, api.ErrStale}, {math.MinInt, -1, api.ErrStale},
	} {
		if place, e := Find(s, c.h); place != c.place || e != c.e {
			t.Error(c, place, e)
		}
	}
}

// P3.3
func TestGetAndSet(t *testing.T) {
	s := mixed()
	dead, live := handle.Pack(0, 1), handle.Pack(2, 2)
	if v, e := Get(s, live); v != "l" || e != api.OK {
		t.Error(v, e)
	}
	if v, e := Get(s, dead); v != "" || e != api.ErrStale {
		t.Error(v, e)
	}
	if v, e := Get(s, 0); v != "" || e != api.ErrNil {
		t.Error(v, e)
	}
	for _, h := range []int{dead, live} {
		r, e := Set(s, h, "n")
		want := s.Cells[handle.Slot(h)]
		want.Val = "n"
		if e != api.OK || r.Cells[handle.Slot(h)] != want {
			t.Error(h, r, e)
		}
	}
	if !reflect.DeepEqual(s, mixed()) {
		t.Error("what was handed in is changed", s)
	}
}

// P3.3
func TestKillAndGive(t *testing.T) {
	s := mixed()
	live, dead := handle.Pack(2, 2), handle.Pack(0, 1)
	k, e := Kill(s, live)
	if e != api.OK || k.Cells[2] != (Cell[string]{Dead, 2, "l"}) {
		t.Error(k, e)
	}
	for _, h := range []int{live, dead} {
		g, e := Give(s, h)
		if e != api.OK || g.Cells[handle.Slot(h)] != (Cell[string]{Free, handle.Gen(h) + 1, ""}) {
			t.Error(h, g, e)
		}
	}
	s.Last = 2
	if g, e := Give(s, live); e != api.OK || g.Cells[2] != (Cell[string]{Retired, 2, ""}) {
		t.Error(g, e)
	}
}

// P3.3: with an error the slab is as it is.
func TestErrorsChangeNothing(t *testing.T) {
	for _, c := range []struct {
		h int
		e api.Errno
	}{{0, api.ErrNil}, {handle.Pack(1, 3), api.ErrStale}, {handle.Pack(3, 1), api.ErrStale}, {-5, api.ErrStale}, {handle.Pack(23, 0), api.ErrStale}} {
		for i, call := range []func() (Slab[string], api.Errno){
			func() (Slab[string], api.Errno) { return Set(mixed(), c.h, "n") },
			func() (Slab[string], api.Errno) { return Kill(mixed(), c.h) },
			func() (Slab[string], api.Errno) { return Give(mixed(), c.h) },
		} {
			if s, e := call(); e != c.e || !reflect.DeepEqual(s, mixed()) {
				t.Error(i, c, s, e)
			}
		}
	}
	if s, e := Kill(mixed(), handle.Pack(0, 1)); e != api.ErrStale || !reflect.DeepEqual(s, mixed()) {
		t.Error(s, e)
	}
}

// P3.4
func TestWhatWasGivenBackIsNeverFound(t *testing.T) {
	s := New[int](1, 9)
	var old []int
	for gen := range 10 {
		var h int
		var e api.Errno
		if s, h, e = Take(s, gen); e != api.OK || h != 1+32*gen {
			t.Fatal(gen, h, e)
		}
		for _, o := range old {
			if _, e := Find(s, o); e != api.ErrStale {
				t.Error(gen, o, e)
			}
		}
		s, _ = Give(s, h)
		old = append(old, h)
	}
	if _, _, e := Take(s, 0); e != api.ErrFull || Tally(s) != [4]int{0, 0, 0, 1} {
		t.Error(s, e)
	}
}
