package reach

import (
	"slices"
	"testing"

	"mortmain/api"
	"mortmain/slab"
	"mortmain/store"
)

// built makes an object for each list, in slots 0, 1, .., with its fields; the
// serials go against the slots.
func built(t *testing.T, fields ...[]int) store.Store {
	t.Helper()
	s := store.New(len(fields), 9)
	for _, f := range fields {
		var h int
		var e api.Errno
		if s, h, e = store.Make(s, len(f), -1); e != api.OK {
			t.Fatal(e)
		}
		for k, x := range f {
			s, _ = store.Put(s, h, k, x)
		}
	}
	for i := range s.S.Cells {
		s.S.Cells[i].Val.Serial = len(fields) - i
	}
	return s
}

func web(t *testing.T) store.Store {
	return built(t, []int{2}, []int{1, 99}, []int{4, 0, 5}, []int{3}, nil, []int{6, 1})
}

// P8.1
func TestFromAndLost(t *testing.T) {
	s := web(t)
	for _, c := range []struct{ l, from, lost []int }{
		{nil, nil, []int{6, 5, 4, 3, 2, 1}},
		{[]int{2}, []int{2, 1}, []int{6, 5, 4, 3}},
		{[]int{1, 3}, []int{5, 4, 3, 2, 1}, []int{6}},
		{[]int{5, 5}, []int{5}, []int{6, 4, 3, 2, 1}},
		{[]int{6}, []int{6, 2, 1}, []int{5, 4, 3}},
		{[]int{0, -1, 33, 7, 99, 5}, []int{5}, []int{6, 4, 3, 2, 1}},
	} {
		from, lost := From(s, c.l), Lost(s, c.l)
		if !slices.Equal(from, c.from) || !slices.Equal(lost, c.lost) {
			t.Error(c, from, lost)
		}
	}
}

// P8.1: the dead are not reached, and nothing is reached by them.
func TestFromStopsAtTheDead(t *testing.T) {
	s := built(t, []int{2}, []int{3}, nil)
	s.S, _ = slab.Kill(s.S, 2)
	if l := From(s, []int{1, 2}); !slices.Equal(l, []int{1}) {
		t.Error(l)
	}
	if l := Lost(s, []int{1}); !slices.Equal(l, []int{3}) {
		t.Error(l)
	}
}

// P8.2
func TestIs(t *testing.T) {
	s := web(t)
	for _, c := range []struct {
		a, b int
		is   bool
	}{{1, 1, true}, {1, 2, true}, {2, 1, true}, {3, 5, true}, {5, 3, false}, {6, 2, true}, {1, 6, false}, {0, 0, false}, {2, 99, false}, {99, 99, false}, {33, 1, false}} {
		if is := Is(s, c.a, c.b); is != c.is {
			t.Error(c, is)
		}
	}
}

// P8.2
func TestClosed(t *testing.T) {
	s := web(t)
	for _, c := range []struct {
		l      []int
		closed bool
	}{{nil, true}, {[]int{5}, true}, {[]int{1}, false}, {[]int{2, 1}, true}, {[]int{3, 4}, false}, {[]int{4, 3, 5}, true}, {[]int{6}, false}, {[]int{0, 33, 99, -4}, true}, {[]int{1, 1, 2, 99}, true}} {
		if closed := Closed(s, c.l); closed != c.closed {
			t.Error(c, closed)
		}
	}
}

// P8.3
func TestFromIsTheLeastThatIsClosed(t *testing.T) {
	s := web(t)
	all := store.Live(s)
	subset := func(bits int) []int {
		var l []int
		for i, h := range all {
			if bits>>i&1 == 1 {
				l = append(l, h)
			}
		}
		return l
	}
	within := func(a, b []int) bool {
		return !slices.ContainsFunc(a, func(h int) bool { return !slices.Contains(b, h) })
	}
	for bits := range 1 << len(all) {
		l := subset(bits)
		from := From(s, l)
		if !Closed(s, from) || !within(l, from) {
			t.Error(l, from)
		}
		for other := range 1 << len(all) {
			if o := subset(other); within(l, o) && Closed(s, o) && !within(from, o) {
				t.Error(l, from, o)
			}
		}
	}
}

// A store that is full, all of it in one ring.
func TestGreatRing(t *testing.T) {
	var fields [][]int
	for i := range api.MaxSlots {
		fields = append(fields, []int{(i+1)%api.MaxSlots + 1, 1, 2, 3})
	}
	s := built(t, fields...)
	if l := From(s, []int{24}); len(l) != 24 || len(Lost(s, []int{7})) != 0 {
		t.Error(l)
	}
}
