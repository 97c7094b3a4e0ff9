package engine

import (
	"math"
	"reflect"
	"slices"
	"testing"

	"mortmain/api"
	"mortmain/code"
	"mortmain/count"
	"mortmain/fix"
	"mortmain/hold"
	"mortmain/machine"
	"mortmain/settle"
	"mortmain/store"
	"mortmain/task"
)

var programs = [][]code.Op{
	{{Kind: code.Copy, A: 4, B: 5}},
	{{Kind: code.Drop, A: 4}},
	{},
	{{Kind: code.New, A: 0, B: 2, C: 0}, {Kind: code.Store, A: 0, B: 1, C: 5}, {Kind: code.Weak, A: 1, B: 0, C: 1}},
	{{Kind: code.Pair, A: 5, B: 0}, {Kind: code.Get, A: 3, B: 5}, {Kind: code.Up, A: 2, B: 0}},
	{{Kind: code.Load, A: 4, B: 5, C: 0}},
}

func made(t *testing.T, n, last, places int) Engine {
	t.Helper()
	g, e := New(n, last, places, programs)
	if e != api.OK {
		t.Fatal(e)
	}
	return g
}

// P21.1
func TestNew(t *testing.T) {
	g := made(t, 3, 9, 2)
	if !reflect.DeepEqual(g.X, hold.New(3, 9, 2)) || !reflect.DeepEqual(g.Progs, programs) {
		t.Error(g)
	}
	wrong := [][]code.Op{{{Kind: code.Collect}}}
	for _, c := range []struct {
		n, last, places int
		progs           [][]code.Op
		e               api.Errno
	}{
		{3, 9, 2, wrong, api.ErrProg}, {0, 9, 2, wrong, api.ErrProg}, {3, 9, 2, make([][]code.Op, 7), api.ErrProg},
		{0, 9, 2, nil, api.ErrArg}, {25, 9, 2, nil, api.ErrArg}, {3, -1, 2, nil, api.ErrArg}, {3, 10, 2, programs, api.ErrArg},
		{3, 9, 0, nil, api.ErrArg}, {3, 9, 9, nil, api.ErrArg}, {math.MaxInt, math.MinInt, 1, nil, api.ErrArg},
	} {
		if g, e := New(c.n, c.last, c.places, c.progs); e != c.e || !reflect.DeepEqual(g, Engine{}) {
			t.Error(c, g, e)
		}
	}
}

// P21.2
func TestRowsAndAnswers(t *testing.T) {
	for i, c := range []struct {
		rows [][]int
		want []Answer
	}{
		{[][]int{{1, 0, 0, -1}, {3, 0, 0, 0}, {11, 0, 0, 0}}, []Answer{{V: 1}, {}, {}}},
		{[][]int{{1, 0, 1, -1}, {5, 0, 0, 0}, {3, 0, 0, 0}, {11, 7, 7, 7}, {11, 0, 0, 0}}, []Answer{{V: 1}, {V: 1}, {}, {V: 1}, {}}},
		// Two of a ring have programs: these come first, and the first one saves itself and so both.
		{[][]int{{1, 0, 1, 0}, {1, 1, 1, 2}, {5, 0, 0, 1}, {5, 1, 0, 0}, {3, 0, 0, 0}, {3, 1, 0, 0}, {11, 0, 0, 0}, {11, 0, 0, 0}, {12, 2, 0, 0}, {12, 3, 0, 0}, {10, 4, 5, 0}, {11, 0, 0, 0}, {3, 4, 0, 0}, {11, 0, 0, 0}},
			[]Answer{{V: 1}, {V: 2}, {V: 2}, {V: 1}, {}, {}, {V: -2}, {}, {V: 1, E: api.ErrFuel}, {V: 1}, {}, {}, {}, {V: 2}}},
		{[][]int{nil, {1, 0, 0}, {0, 0, 0, 0}, {13, 0, 0, 0}, {12, 201, 0, 0}, {12, -1, 0, 0}, {2, 0, 6, 9}, {7, 0, 0, 0}, {12, 0, 0, 0}},
			[]Answer{{E: api.ErrOp}, {E: api.ErrOp}, {E: api.ErrOp}, {E: api.ErrOp}, {E: api.ErrFuel}, {E: api.ErrFuel}, {E: api.ErrRoot}, {E: api.ErrNone}, {}}},
		{[][]int{{1, 0, 0, 2}, {3, 0, 0, 0}, {12, 0, 0, 0}, {12, 1, 0, 0}, {12, 0, 0, 0}}, []Answer{{V: 1}, {}, {E: api.ErrFuel}, {V: 1}, {}}},
		{nil, nil},
	} {
		if _, answers := Run(made(t, 3, 9, 2), c.rows); !slices.Equal(answers, c.want) {
			t.Error(i, answers)
		}
	}
}

// P21.2
func TestErrorsChangeNothing(t *testing.T) {
	g, _ := Run(made(t, 1, 9, 1), [][]int{{1, 0, 1, 2}, {6, 0, 0, 1}})
	for _, row := range [][]int{nil, {1}, {99, 0, 0, 0}, {1, 1, 0, 0}, {4, 0, 1, 0}, {4, 0, 0, 1}, {12, 201, 0, 0}, {9, 1, 0, 0}} {
		if h, a := Do(g, row); a.V != 0 || a.E == api.OK || !reflect.DeepEqual(h, g) {
			t.Error(row, a)
		}
	}
}

// P21.1
func TestTallyLivesQuiet(t *testing.T) {
	g := made(t, 4, 0, 2)
	if Tally(g) != [4]int{4} || len(Lives(g)) != 0 || !Quiet(g) {
		t.Error(g)
	}
	g, _ = Run(g, [][]int{{1, 0, 0, -1}, {1, 0, 0, -1}, {1, 1, 1, 2}, {6, 2, 1, -1}})
	if Tally(g) != [4]int{1, 2, 0, 1} || !slices.Equal(Lives(g), []int{2, 3}) || !Quiet(g) {
		t.Error(g)
	}
	ring, _ := Run(g, [][]int{{5, 1, 0, 1}, {3, 1, 0, 0}})
	if Quiet(ring) {
		t.Error("a ring is quiet")
	}
	g, _ = Do(g, []int{3, 1, 0, 0})
	if Quiet(g) || !slices.Equal(Lives(g), []int{2, 3}) {
		t.Error("a task is quiet")
	}
	g, _ = Do(g, []int{12, 9, 0, 0})
	if Tally(g) != [4]int{1, 1, 1, 1} || !slices.Equal(Lives(g), []int{2}) || !Quiet(g) {
		t.Error(g)
	}
}

// P21.1: serials rise, though the slots do not.
func TestLivesRise(t *testing.T) {
	g, _ := Run(made(t, 3, 9, 1), [][]int{{1, 0, 0, -1}, {1, 1, 0, -1}, {1, 2, 0, -1}, {3, 0, 0, 0}, {1, 3, 0, -1}})
	if !slices.Equal(Lives(g), []int{2, 3, 4}) {
		t.Error(Lives(g))
	}
}

// P21.3
func TestWhatLivesIsWhatIsReached(t *testing.T) {
	seed := uint32(17)
	next := func(n int) int {
		seed = seed*1664525 + 1013904223
		return int(seed>>8) % n
	}
	quiet := 0
	for range 120 {
		n := 1 + next(8)
		g := made(t, n, 1+next(9), 1+next(4))
		for range 80 {
			row := []int{1 + next(12), next(6), next(6) - 1, next(6) - 1}
			if row[0] == 12 {
				row[1] = next(30)
			}
			g, _ = Do(g, row)
			tally := Tally(g)
			if tally[0]+tally[1]+tally[2]+tally[3] != n || tally[1] != len(Lives(g)) || !hold.Right(g.X) || !settle.Settled(g.X) {
				t.Fatal(row, g)
			}
			drained, d := Do(g, []int{12, 200, 0, 0})
			swept, c := Do(drained, []int{11, 0, 0, 0})
			if d.E != api.OK || c.V != 0 || len(swept.X.Q.L) != 0 {
				continue
			}
			quiet++
			if want := reachedSerials(swept.X); !slices.Equal(Lives(swept), want) || !Quiet(swept) {
				t.Fatal(Lives(swept), want)
			}
		}
	}
	if quiet == 0 {
		t.Error("nothing was tried")
	}
}

func reachedSerials(x hold.Heap) []int {
	from := append(slices.Clone(x.Roots), task.Held(x.Q)...)
	for _, h := range store.Live(x.S) {
		if o, _ := store.Get(x.S, h); count.Stuck(o.Strong) {
			from = append(from, h)
		}
	}
	var serials []int
	for _, h := range fix.From(x.S, x.T, from) {
		serials = append(serials, machine.Serial(x, h))
	}
	slices.Sort(serials)
	return serials
}
