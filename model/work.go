package model

import (
	"slices"

	"mortmain/api"
	"mortmain/code"
	"mortmain/engine"
	"mortmain/ephem"
	"mortmain/task"
	"mortmain/vec"
	"mortmain/weak"
)

func done(m Model, o code.Op) (Model, engine.Answer) {
	switch o.Kind {
	case code.Same:
		if m.Roots[o.A] == m.Roots[o.B] {
			return m, engine.Answer{V: 1}
		}
		return m, engine.Answer{}
	case code.Store:
		return written(m, said(m, o.C), o, stored)
	case code.Weak:
		return written(m, said(m, o.B), o, weakened)
	case code.Pair:
		return written(m, said(m, o.B), o, paired)
	case code.New:
		return created(m, o)
	}
	s, e := asked(m, o)
	if e != api.OK {
		return m, engine.Answer{E: e}
	}
	return turned(m, o.A, s)
}

// written answers the new name, which settling may take away.
func written(m Model, s int, o code.Op, write func(Model, int, code.Op) (Model, api.Errno)) (Model, engine.Answer) {
	y, e := write(m, s, o)
	if e != api.OK {
		return m, engine.Answer{E: e}
	}
	return settled(y), engine.Answer{V: s}
}

// turned answers what the root says behind all.
func turned(m Model, r, s int) (Model, engine.Answer) {
	m = settled(rooted(m, r, s))
	return m, engine.Answer{V: m.Roots[r]}
}

func rooted(m Model, r, s int) Model {
	m = anew(m, s)
	m.Roots = slices.Clone(m.Roots)
	m.Roots[r] = s
	return m
}

func created(m Model, o code.Op) (Model, engine.Answer) {
	fields, e := vec.New(o.B)
	if e != api.OK {
		return m, engine.Answer{E: e}
	}
	slot := slices.Index(m.Slots, 0)
	if slot < 0 {
		return m, engine.Answer{E: api.ErrFull}
	}
	m.Serial++
	m.Slots = slices.Clone(m.Slots)
	m.Slots[slot] = m.Serial
	m.Nodes = append(slices.Clone(m.Nodes), Node{Serial: m.Serial, Slot: slot, Prog: o.C, Alive: true, Fields: fields})
	return turned(m, o.A, m.Serial)
}

// asked is what a root is to say.
func asked(m Model, o code.Op) (int, api.Errno) {
	switch o.Kind {
	case code.Copy:
		return m.Roots[o.B], api.OK
	case code.Load:
		n, e := object(m, o.B)
		if e != api.OK {
			return 0, e
		}
		return vec.At(n.Fields, o.C)
	case code.Up:
		return weak.Load(m.Cells, o.B)
	case code.Get:
		n, e := object(m, o.B)
		if e != api.OK {
			return 0, e
		}
		if vals := valuesOf(m, n.Serial); len(vals) > 0 {
			return vals[0], api.OK
		}
		return 0, api.ErrNone
	}
	return 0, api.OK
}

func stored(m Model, s int, o code.Op) (Model, api.Errno) {
	n, e := object(m, o.A)
	if e != api.OK {
		return m, e
	}
	fields, e := vec.With(n.Fields, o.B, s)
	if e != api.OK {
		return m, e
	}
	m = anew(m, s)
	return changed(m, n.Serial, func(n Node) Node {
		n.Fields = fields
		return n
	}), api.OK
}

func weakened(m Model, s int, o code.Op) (Model, api.Errno) {
	if o.B >= 0 && s == 0 {
		return m, api.ErrNil
	}
	if task.Waits(waiting(m), o.A) {
		return m, api.ErrCell
	}
	cells, old, e := weak.Set(m.Cells, o.A, s, o.C)
	if e != api.OK {
		return m, e
	}
	m.Cells = cells
	return released(m, old), api.OK
}

func paired(m Model, s int, o code.Op) (Model, api.Errno) {
	n, e := object(m, o.A)
	if e != api.OK {
		return m, e
	}
	others := picked(m.Pairs, func(p ephem.Pair) bool { return p.Key != n.Serial })
	if s == 0 {
		m.Pairs = others
		return m, api.OK
	}
	if len(others) >= m.Places {
		return m, api.ErrTable
	}
	m = anew(m, s)
	m.Pairs = append(others, ephem.Pair{Key: n.Serial, Val: s})
	return m, api.OK
}

func object(m Model, r int) (Node, api.Errno) {
	if said(m, r) == 0 {
		return Node{}, api.ErrNil
	}
	return m.Nodes[node(m, said(m, r))], api.OK
}

// said is 0, where an operation names nothing by -1.
func said(m Model, r int) int {
	if r < 0 {
		return 0
	}
	return m.Roots[r]
}
