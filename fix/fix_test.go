package fix

import (
	"slices"
	"testing"

	"mortmain/api"
	"mortmain/ephem"
	"mortmain/hash"
	"mortmain/reach"
	"mortmain/slab"
	"mortmain/store"
)

// built makes an object for each list, in slots 0, 1, .., with its fields; the
// serials go against the slots.
func built(t *testing.T, fields ...[]int) store.Store {
	t.Helper()
	s := store.New(len(fields), 9)
	for _, f := range fields {
		var h int
		var e api.Errno
		if s, h, e = store.Make(s, len(f), -1); e != api.OK {
			t.Fatal(e)
		}
		for k, x := range f {
			s, _ = store.Put(s, h, k, x)
		}
	}
	for i := range s.S.Cells {
		s.S.Cells[i].Val.Serial = len(fields) - i
	}
	return s
}

func table(t *testing.T, pairs ...ephem.Pair) []hash.Place {
	t.Helper()
	l := hash.New(8)
	for _, p := range pairs {
		var e api.Errno
		if l, e = hash.Put(l, p.Key, p.Val); e != api.OK {
			t.Fatal(p, e)
		}
	}
	return l
}

// P12.2, P12.3
func TestFromLostRounds(t *testing.T) {
	loose := built(t, nil, nil, nil, nil)
	chain := table(t, ephem.Pair{Key: 1, Val: 2}, ephem.Pair{Key: 2, Val: 3}, ephem.Pair{Key: 4, Val: 4})
	tied := built(t, []int{2}, nil, []int{4}, nil, nil)
	both := table(t, ephem.Pair{Key: 1, Val: 3}, ephem.Pair{Key: 2, Val: 5}, ephem.Pair{Key: 5, Val: 1})
	for i, c := range []struct {
		s             store.Store
		t             []hash.Place
		l, from, lost []int
		rounds        int
	}{
		{loose, chain, []int{1}, []int{3, 2, 1}, []int{4}, 2},
		{loose, chain, []int{2}, []int{3, 2}, []int{4, 1}, 1},
		{loose, chain, []int{4}, []int{4}, []int{3, 2, 1}, 0},
		{loose, chain, []int{3, 4}, []int{4, 3}, []int{2, 1}, 0},
		{loose, chain, nil, nil, []int{4, 3, 2, 1}, 0},
		{loose, chain, []int{0, 33, 1, 1}, []int{3, 2, 1}, []int{4}, 2},
		{loose, chain, []int{1, 2, 3}, []int{3, 2, 1}, []int{4}, 0},
		{loose, hash.New(1), []int{1}, []int{1}, []int{4, 3, 2}, 0},
		{tied, both, []int{1}, []int{5, 4, 3, 2, 1}, nil, 1},
		{tied, both, []int{5}, []int{5, 4, 3, 2, 1}, nil, 2},
		{tied, both, []int{3}, []int{4, 3}, []int{5, 2, 1}, 0},
	} {
		from, lost, rounds := From(c.s, c.t, c.l), Lost(c.s, c.t, c.l), Rounds(c.s, c.t, c.l)
		if !slices.Equal(from, c.from) || !slices.Equal(lost, c.lost) || rounds != c.rounds {
			t.Error(i, from, lost, rounds)
		}
	}
}

// P12.1
func TestClosed(t *testing.T) {
	s := built(t, []int{2}, nil, nil, nil)
	l := table(t, ephem.Pair{Key: 1, Val: 3}, ephem.Pair{Key: 33, Val: 4}, ephem.Pair{Key: 2, Val: 99}, ephem.Pair{Key: 4, Val: 0})
	for _, c := range []struct {
		l      []int
		closed bool
	}{{nil, true}, {[]int{1, 2}, false}, {[]int{1, 3}, false}, {[]int{1, 2, 3}, true}, {[]int{2}, true}, {[]int{3}, true}, {[]int{33, 99, 0}, true}, {[]int{4}, true}} {
		if closed := Closed(s, l, c.l); closed != c.closed {
			t.Error(c, closed)
		}
	}
}

// P12.1, P12.2: keys and values that are dead hold nothing, and are not held.
func TestTheDead(t *testing.T) {
	s := built(t, nil, nil, nil)
	s.S, _ = slab.Kill(s.S, 2)
	l := table(t, ephem.Pair{Key: 1, Val: 2}, ephem.Pair{Key: 2, Val: 3})
	if from := From(s, l, []int{1, 2}); !slices.Equal(from, []int{1}) {
		t.Error(from)
	}
	if !Closed(s, l, []int{1}) || !Closed(s, l, []int{1, 2}) || Rounds(s, l, []int{1, 2}) != 0 {
		t.Error("not closed")
	}
}

// P12.2
func TestFromIsTheLeastThatIsClosed(t *testing.T) {
	s := built(t, []int{2}, nil, []int{4}, nil, []int{5, 1})
	l := table(t, ephem.Pair{Key: 1, Val: 3}, ephem.Pair{Key: 4, Val: 2}, ephem.Pair{Key: 2, Val: 2})
	all := store.Live(s)
	subset := func(bits int) []int {
		var l []int
		for i, h := range all {
			if bits>>i&1 == 1 {
				l = append(l, h)
			}
		}
		return l
	}
	within := func(a, b []int) bool {
		return !slices.ContainsFunc(a, func(h int) bool { return !slices.Contains(b, h) })
	}
	for bits := range 1 << len(all) {
		begun := subset(bits)
		from := From(s, l, begun)
		if !Closed(s, l, from) || !within(begun, from) || (Rounds(s, l, begun) == 0) != Closed(s, l, reach.From(s, begun)) {
			t.Error(begun, from)
		}
		for other := range 1 << len(all) {
			if o := subset(other); within(begun, o) && Closed(s, l, o) && !within(from, o) {
				t.Error(begun, from, o)
			}
		}
	}
}

// P12.4
func TestAKeyThatIsNotReachedHoldsNothing(t *testing.T) {
	s := built(t, nil, []int{1}, nil)
	l := table(t, ephem.Pair{Key: 1, Val: 2})
	if from := From(s, l, []int{3}); !slices.Equal(from, []int{3}) {
		t.Error(from)
	}
	if lost := Lost(s, l, []int{3}); !slices.Equal(lost, []int{2, 1}) {
		t.Error(lost)
	}
}
