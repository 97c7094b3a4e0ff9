package model

import (
	"slices"

	"mortmain/engine"
	"mortmain/ephem"
	"mortmain/task"
	"mortmain/weak"
)

func settled(m Model) Model {
	for {
		at := slices.IndexFunc(m.Nodes, func(n Node) bool { return n.Alive && !n.Stuck && Names(m, n.Serial) == 0 })
		if at < 0 {
			return m
		}
		if n := m.Nodes[at]; owesRun(n) {
			m = started(m, n.Serial)
		} else {
			m = buried(m, []int{n.Serial})
		}
	}
}

func started(m Model, s int) Model {
	m = anew(m, s)
	prog := m.Nodes[node(m, s)].Prog
	m = changed(m, s, func(n Node) Node {
		n.Started = true
		return n
	})
	m.Tasks = append(slices.Clone(m.Tasks), task.Task{Kind: task.Final, At: s, Prog: prog})
	return m
}

func buried(m Model, doomed []int) Model {
	cells, called := weak.Clear(m.Cells, doomed)
	m.Cells = cells
	calls := mapped(called, func(w int) task.Task { return task.Task{Kind: task.Call, At: w, Prog: cells[w].Call} })
	m.Tasks = slices.Concat(m.Tasks, calls)
	m.Pairs = picked(m.Pairs, func(p ephem.Pair) bool { return !slices.Contains(doomed, p.Key) })
	for _, s := range doomed {
		m = changed(m, s, func(n Node) Node {
			n.Alive, n.Fields = false, nil
			return n
		})
		m = released(m, s)
	}
	return m
}

// released gives the slot of s back, if it is gone, and no cell names it.
func released(m Model, s int) Model {
	at := node(m, s)
	if at < 0 || m.Nodes[at].Alive || weak.Naming(m.Cells, s) > 0 {
		return m
	}
	slot := m.Nodes[at].Slot
	m.Nodes = picked(m.Nodes, func(n Node) bool { return n.Serial != s })
	m.Slots, m.Gens = slices.Clone(m.Slots), slices.Clone(m.Gens)
	if m.Gens[slot] == m.Last {
		m.Slots[slot] = -1
		return m
	}
	m.Slots[slot] = 0
	m.Gens[slot]++
	return m
}

func collected(m Model) (Model, engine.Answer) {
	seen := reached(m)
	garbage := picked(m.Nodes, func(n Node) bool { return n.Alive && !seen[n.Serial] })
	batch := serials(picked(garbage, owesRun))
	for _, s := range batch {
		m = started(m, s)
	}
	if len(batch) > 0 {
		return m, engine.Answer{V: -len(batch)}
	}
	y := settled(buried(m, serials(garbage)))
	return y, engine.Answer{V: len(Lives(m)) - len(Lives(y))}
}
