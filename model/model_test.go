package model

import (
	"math"
	"reflect"
	"slices"
	"testing"

	"mortmain/api"
	"mortmain/code"
	"mortmain/engine"
	"mortmain/ephem"
	"mortmain/task"
	"mortmain/weak"
)

type op = code.Op

var programs = [][]op{
	{{Kind: code.Copy, A: 4, B: 5}},
	{{Kind: code.Drop, A: 4}},
	{},
}

func made(t *testing.T, n, last, places int) Model {
	t.Helper()
	m, e := New(n, last, places, programs)
	if e != api.OK {
		t.Fatal(e)
	}
	return m
}

func did(t *testing.T, m Model, rows ...[]int) Model {
	t.Helper()
	for _, row := range rows {
		var a engine.Answer
		if m, a = Do(m, row); a.E != api.OK {
			t.Fatal(row, a)
		}
	}
	return m
}

// P22.1
func TestNew(t *testing.T) {
	m := made(t, 3, 9, 2)
	want := Model{Slots: []int{0, 0, 0}, Gens: []int{0, 0, 0}, Last: 9, Places: 2, Roots: make([]int, 6), Cells: weak.New(6), Progs: programs}
	if !reflect.DeepEqual(m, want) {
		t.Error(m)
	}
	wrong := [][]op{{{Kind: code.Drain}}}
	for _, c := range []struct {
		n, last, places int
		progs           [][]op
	}{
		{3, 9, 2, wrong}, {0, 9, 2, wrong}, {0, 9, 2, nil}, {25, 9, 2, nil}, {3, -1, 2, nil}, {3, 10, 2, nil}, {3, 9, 0, nil}, {3, 9, 9, nil},
		{math.MaxInt, 0, 1, nil}, {3, 9, 2, make([][]op, 7)}, {24, 9, 8, nil}, {1, 0, 1, programs},
	} {
		m, e := New(c.n, c.last, c.places, c.progs)
		if _, want := engine.New(c.n, c.last, c.places, c.progs); e != want || e != api.OK && !reflect.DeepEqual(m, Model{}) {
			t.Error(c, m, e, want)
		}
	}
}

// P22.1
func TestNamesAndLives(t *testing.T) {
	m := Model{
		Nodes: []Node{{Serial: 2, Alive: true, Fields: []int{3, 0, 3}}, {Serial: 3, Fields: []int{2}}, {Serial: 5, Alive: true, Fields: []int{5, 2}}},
		Roots: []int{2, 0, 5, 2, 0, 0},
		Cells: []weak.Cell{{Target: 2, Intact: true}},
		Pairs: []ephem.Pair{{Key: 2, Val: 5}, {Key: 5, Val: 5}, {Key: 3, Val: 2}},
		Tasks: []task.Task{{Kind: task.Final, At: 5}, {Kind: task.Call, At: 2}, {Kind: task.Final, At: 2}},
	}
	for s, want := range map[int]int{2: 5, 3: 2, 5: 5, 0: 0, 1: 0, -1: 0, 9: 0} {
		if n := Names(m, s); n != want {
			t.Error(s, n)
		}
	}
	if l := Lives(m); !slices.Equal(l, []int{2, 5}) || len(Lives(Model{})) != 0 {
		t.Error(l)
	}
}

// P22.2: a slot is given back for the next generation, or retired; one that a cell names is kept.
func TestSlots(t *testing.T) {
	m := did(t, made(t, 2, 1, 1), []int{1, 0, 2, -1}, []int{1, 1, 0, 1})
	want := []Node{{Serial: 1, Slot: 0, Prog: -1, Alive: true, Fields: []int{0, 0}}, {Serial: 2, Slot: 1, Prog: 1, Alive: true, Fields: []int{}}}
	if !reflect.DeepEqual(m.Nodes, want) || !slices.Equal(m.Slots, []int{1, 2}) || m.Serial != 2 {
		t.Error(m)
	}
	if _, a := Do(m, []int{1, 0, 0, -1}); a != (engine.Answer{E: api.ErrFull}) {
		t.Error(a)
	}
	m = did(t, m, []int{6, 3, 0, 2}, []int{3, 0, 0, 0})
	if n := m.Nodes[0]; n.Alive || len(n.Fields) != 0 || m.Slots[0] != 1 || m.Cells[3] != (weak.Cell{Target: 1, Call: 2}) {
		t.Error(m)
	}
	if _, a := Do(m, []int{6, 3, -1, 0}); a.E != api.ErrCell {
		t.Error(a)
	}
	m = did(t, m, []int{12, 9, 0, 0}, []int{6, 3, -1, 0})
	if !slices.Equal(m.Slots, []int{0, 2}) || !slices.Equal(m.Gens, []int{1, 0}) || len(m.Nodes) != 1 {
		t.Error(m)
	}
	m = did(t, m, []int{1, 0, 0, -1}, []int{3, 0, 0, 0})
	if !slices.Equal(m.Slots, []int{-1, 2}) || !slices.Equal(m.Gens, []int{1, 0}) || m.Serial != 3 {
		t.Error(m)
	}
	if _, a := Do(m, []int{1, 0, 0, -1}); a.E != api.ErrFull {
		t.Error(a)
	}
}

// P22.2: the last pair is the one that was set last; a value 0 takes one away.
func TestPairs(t *testing.T) {
	m := did(t, made(t, 4, 9, 2), []int{1, 0, 0, -1}, []int{1, 1, 0, -1}, []int{1, 2, 0, -1}, []int{8, 0, 1, 0}, []int{8, 1, 2, 0}, []int{8, 0, 2, 0})
	if !slices.Equal(m.Pairs, []ephem.Pair{{Key: 2, Val: 3}, {Key: 1, Val: 3}}) {
		t.Error(m.Pairs)
	}
	if y, a := Do(m, []int{8, 2, 0, 0}); a != (engine.Answer{E: api.ErrTable}) || !reflect.DeepEqual(y, m) {
		t.Error(a)
	}
	if m = did(t, m, []int{8, 2, -1, 0}, []int{8, 1, -1, 0}); !slices.Equal(m.Pairs, []ephem.Pair{{Key: 1, Val: 3}}) {
		t.Error(m.Pairs)
	}
}

// P22.2: the twelfth name is one too many, also where a place names anew what it named.
func TestStuck(t *testing.T) {
	full := [][]int{{1, 0, 4, -1}, {5, 0, 0, 0}, {5, 0, 1, 0}, {5, 0, 2, 0}, {5, 0, 3, 0}, {2, 1, 0, 0}, {2, 2, 0, 0}, {2, 3, 0, 0}, {2, 4, 0, 0}, {8, 0, 0, 0}}
	m := did(t, made(t, 2, 9, 2), full...)
	if Names(m, 1) != 10 || m.Nodes[0].Stuck {
		t.Fatal(m)
	}
	m = did(t, m, []int{2, 5, 0, 0})
	if Names(m, 1) != 11 || m.Nodes[0].Stuck {
		t.Fatal(m)
	}
	m = did(t, m, []int{2, 5, 5, 0})
	if Names(m, 1) != 11 || !m.Nodes[0].Stuck {
		t.Fatal(m)
	}
	for r := range 6 {
		m = did(t, m, []int{3, r, 0, 0})
	}
	if y, a := Do(m, []int{11, 0, 0, 0}); a != (engine.Answer{}) || !slices.Equal(Lives(y), []int{1}) {
		t.Error(y, a)
	}
}

// P22.2: an object of eleven names is stuck by its task, and by the root that its program sees.
func TestTasksNameAnew(t *testing.T) {
	rows := [][]int{{1, 0, 4, 2}, {5, 0, 0, 0}, {5, 0, 1, 0}, {5, 0, 2, 0}, {5, 0, 3, 0}, {1, 1, 4, -1}, {5, 0, 3, 1}, {5, 1, 0, 0}, {5, 1, 1, 0}, {5, 1, 2, 0}, {5, 1, 3, 0},
		{1, 2, 4, -1}, {5, 2, 3, 1}, {5, 1, 3, 2}, {5, 2, 0, 0}, {5, 2, 1, 0}, {5, 2, 2, 0}, {3, 0, 0, 0}, {3, 1, 0, 0}, {3, 2, 0, 0}}
	m := did(t, made(t, 3, 9, 1), rows...)
	if Names(m, 1) != 9 {
		t.Fatal(Names(m, 1))
	}
	swept, a := Do(m, []int{11, 0, 0, 0})
	if a.V != -1 || Names(swept, 1) != 10 || swept.Nodes[0].Stuck {
		t.Fatal(a, swept)
	}
	ran, a := Do(swept, []int{12, 1, 0, 0})
	if a.V != 1 || Names(ran, 1) != 9 || ran.Nodes[0].Stuck {
		t.Fatal(a, ran)
	}
	more := did(t, made(t, 3, 9, 1), append(rows[:17:17], []int{8, 0, 0, 0}, []int{3, 0, 0, 0}, []int{3, 1, 0, 0}, []int{3, 2, 0, 0})...)
	if Names(more, 1) != 10 {
		t.Fatal(Names(more, 1))
	}
	more = did(t, more, []int{11, 0, 0, 0})
	if Names(more, 1) != 11 || more.Nodes[0].Stuck {
		t.Fatal(more)
	}
	if more = did(t, more, []int{12, 1, 0, 0}); !more.Nodes[0].Stuck {
		t.Error("the root came behind the task", more)
	}
}

// P22.2
func TestErrorsChangeNothing(t *testing.T) {
	m := did(t, made(t, 1, 9, 1), []int{1, 0, 1, 2}, []int{6, 0, 0, 1})
	for row, want := range map[[4]int]api.Errno{
		{0, 0, 0, 0}: api.ErrOp, {13, 0, 0, 0}: api.ErrOp, {1, 1, 0, 0}: api.ErrFull, {1, 6, 0, 0}: api.ErrRoot, {1, 0, 5, 0}: api.ErrArg, {1, 0, 0, 6}: api.ErrProg,
		{4, 0, 1, 0}: api.ErrNil, {4, 0, 0, 1}: api.ErrField, {5, 1, 0, 0}: api.ErrNil, {5, 0, 1, 0}: api.ErrField,
		{6, 0, 1, 0}: api.ErrNil, {7, 0, 1, 0}: api.ErrNone, {8, 1, 0, 0}: api.ErrNil, {9, 1, 1, 0}: api.ErrNil, {9, 1, 0, 0}: api.ErrNone, {12, 201, 0, 0}: api.ErrFuel,
	} {
		if y, a := Do(m, row[:]); a != (engine.Answer{E: want}) || !reflect.DeepEqual(y, m) {
			t.Error(row, a)
		}
	}
	if y, a := Do(m, nil); a != (engine.Answer{E: api.ErrOp}) || !reflect.DeepEqual(y, m) {
		t.Error(a)
	}
}

// P22.3
func TestRun(t *testing.T) {
	rows := [][]int{{1, 0, 0, -1}, {2, 9, 0, 0}, {3, 0, 0, 0}, {11, 0, 0, 0}}
	m, answers := Run(made(t, 1, 9, 1), rows)
	if !slices.Equal(answers, []engine.Answer{{V: 1}, {E: api.ErrRoot}, {}, {}}) || len(m.Nodes) != 0 {
		t.Error(answers, m)
	}
	if y, answers := Run(m, nil); len(answers) != 0 || !reflect.DeepEqual(y, m) {
		t.Error(answers)
	}
}
