package model

import (
	"fmt"
	"reflect"
	"slices"
	"testing"

	"mortmain/api"
	"mortmain/code"
	"mortmain/count"
	"mortmain/engine"
	"mortmain/ephem"
	"mortmain/handle"
	"mortmain/hold"
	"mortmain/settle"
	"mortmain/slab"
	"mortmain/task"
	"mortmain/weak"
)

// chance is the same at each run.
type chance uint32

func (c *chance) below(n int) int {
	*c = *c*1664525 + 1013904223
	return int(*c>>8) % n
}

// kinds are drawn from: some lists bring rings, some counts that are stuck, some tasks.
var kinds = [][]int{
	{1, 2, 3, 4, 5, 6, 7, 8, 9, 10, 11, 12},
	{1, 1, 2, 3, 3, 5, 5, 5, 6, 8, 8, 11, 12},
	{1, 2, 2, 2, 2, 2, 4, 5, 5, 5, 5, 5, 5, 5, 5, 5, 5, 8, 8, 8, 9, 11, 12},
	{1, 1, 1, 3, 3, 6, 6, 6, 7, 12, 12, 11, 5, 2},
}

func (c *chance) row(kinds []int, progs int) []int {
	kind := kinds[c.below(len(kinds))]
	a, b, d := c.below(6), c.below(6), c.below(5)-1
	switch kind {
	case code.New:
		b, d = min(c.below(8), 4), c.below(progs+1)-1
	case code.Store:
		b, d = c.below(4), c.below(7)-1
	case code.Weak:
		b, d = c.below(7)-1, c.below(progs+1)-1
	case code.Pair:
		b = c.below(7) - 1
	case code.Drain:
		a = c.below(25)
	}
	if c.below(60) == 0 {
		a = c.below(9) - 2
	}
	return []int{kind, a, b, d}
}

// crowd brings an object to nearly as many names as a count tells.
func (c *chance) crowd(progs int) [][]int {
	rows := [][]int{{1, 0, 4, c.below(progs+1) - 1}, {1, 5, 4, c.below(progs+1) - 1}}
	for k := range 4 {
		rows = append(rows, []int{5, 0, k, 0}, []int{2, k + 1, 0, 0})
	}
	return append(rows, []int{5, 5, 0, 0}, []int{5, 5, 1, 0})[:12-c.below(3)]
}

func (c *chance) programs() [][]op {
	var progs [][]op
	for range c.below(7) {
		var prog []op
		for range c.below(7) {
			row := c.row([]int{1, 2, 2, 3, 4, 5, 6, 7, 8, 9, 10}, 6)
			if o, e := code.Decode(row); e == api.OK && code.Plain(o) {
				if c.below(3) == 0 && o.Kind == code.Copy {
					o.B = 5
				}
				prog = append(prog, o)
			}
		}
		progs = append(progs, prog)
	}
	return progs
}

// told is an engine's heap by its serials, as a model has it. Pairs stand in the order of their keys.
func told(x hold.Heap) Model {
	serial := func(h int) int {
		if place, e := slab.Find(x.S.S, h); e == api.OK {
			return x.S.S.Cells[place].Val.Serial
		}
		return 0
	}
	all := func(l []int) []int { return mapped(l, serial) }
	m := Model{Last: x.S.S.Last, Places: len(x.T), Serial: x.S.Serial, Roots: all(x.Roots)}
	for place, c := range x.S.S.Cells {
		m.Slots, m.Gens = append(m.Slots, 0), append(m.Gens, c.Gen)
		switch c.State {
		case slab.Live, slab.Dead:
			o := c.Val
			m.Slots[place] = o.Serial
			m.Nodes = append(m.Nodes, Node{o.Serial, place, o.Prog, o.Started, c.State == slab.Live, count.Stuck(o.Strong), all(o.Fields)})
			if handle.Slot(handle.Pack(place, c.Gen)) != place {
				panic("a slot is lost")
			}
		case slab.Retired:
			m.Slots[place] = -1
		}
	}
	slices.SortFunc(m.Nodes, func(a, b Node) int { return a.Serial - b.Serial })
	for _, c := range x.Cells {
		m.Cells = append(m.Cells, weak.Cell{Target: serial(c.Target), Intact: c.Intact, Call: c.Call})
	}
	for _, p := range ephem.Pairs(x.T) {
		m.Pairs = append(m.Pairs, ephem.Pair{Key: serial(p.Key), Val: serial(p.Val)})
	}
	for _, k := range x.Q.L {
		if k.Kind == task.Final {
			k.At = serial(k.At)
		}
		m.Tasks = append(m.Tasks, k)
	}
	return m
}

// plain makes two models that say the same alike to the letter.
func plain(m Model) string {
	m.Pairs = slices.Clone(m.Pairs)
	slices.SortFunc(m.Pairs, func(a, b ephem.Pair) int { return a.Key - b.Key })
	m.Progs = nil
	return fmt.Sprintf("%v", m)
}

// P22.4
func TestTheEngineAnswersAsTheModel(t *testing.T) {
	c := chance(1)
	stuck, gone, queued, starved, retired, saved := 0, 0, 0, 0, 0, 0
	for script := range 800 {
		progs := c.programs()
		n, last, places := 1+c.below(8)%(1+script%8), c.below(10), 1+c.below(8)
		g, e := engine.New(n, last, places, progs)
		m, f := New(n, last, places, progs)
		if e != api.OK || f != api.OK {
			t.Fatal(e, f, progs)
		}
		var rows [][]int
		if script%4 == 0 {
			rows = c.crowd(len(progs))
		}
		for from := kinds[c.below(len(kinds))]; len(rows) < 60; {
			rows = append(rows, c.row(from, len(progs)))
		}
		for _, row := range rows {
			before, old := plain(m), m
			var a, b engine.Answer
			g, a = engine.Do(g, row)
			m, b = Do(m, row)
			if a != b || plain(told(g.X)) != plain(m) {
				t.Fatalf("script %d, %v: %v, %v\n%v\n%v\nrows %v progs %v", script, row, a, b, plain(told(g.X)), plain(m), rows, progs)
			}
			if plain(old) != before {
				t.Fatal("what was handed in is changed", row)
			}
			if !hold.Right(g.X) || !settle.Settled(g.X) || !slices.Equal(engine.Lives(g), Lives(m)) {
				t.Fatal("not right", row, g)
			}
			if row[0] == code.Collect && a.V > 0 {
				gone++
			}
			if row[0] == code.Collect && a.V < 0 {
				queued++
			}
			if row[0] == code.Drain && a.E != api.OK {
				starved++
			}
		}
		for _, n := range m.Nodes {
			if n.Stuck {
				stuck++
			}
			if n.Alive && n.Started {
				saved++
			}
		}
		if slices.Contains(m.Slots, -1) {
			retired++
		}
	}
	if min(stuck, gone, queued, starved, retired, saved) < 20 {
		t.Error("too little was tried:", stuck, gone, queued, starved, retired, saved)
	}
}

// P22.4: the rows at once are the rows one by one.
func TestRunIsDoOfEach(t *testing.T) {
	c := chance(9)
	for range 50 {
		progs := c.programs()
		var rows [][]int
		for range 60 {
			rows = append(rows, c.row(kinds[1], len(progs)))
		}
		g, _ := engine.New(5, 9, 3, progs)
		m, _ := New(5, 9, 3, progs)
		g, as := engine.Run(g, rows)
		m, bs := Run(m, rows)
		if !reflect.DeepEqual(as, bs) || plain(told(g.X)) != plain(m) {
			t.Fatal(rows)
		}
	}
}
