package model

import (
	"mortmain/api"
	"mortmain/code"
	"mortmain/drain"
	"mortmain/engine"
	"mortmain/task"
)

// own is the root that says a task's object while its program is run.
const own = api.Roots - 1

func drained(m Model, fuel int) (Model, engine.Answer) {
	tasks := 0
	for len(m.Tasks) > 0 {
		cost := drain.Cost(m.Progs, m.Tasks[0])
		if cost > fuel {
			return m, engine.Answer{V: tasks, E: api.ErrFuel}
		}
		fuel -= cost
		m = stepped(m, m.Tasks[0])
		tasks++
	}
	return m, engine.Answer{V: tasks}
}

func stepped(m Model, t task.Task) Model {
	final := t.Kind == task.Final
	if final {
		// The task still holds the object while the root comes to name it, as it does where names are counted.
		m = rooted(m, own, t.At)
	}
	q, _, _ := task.Next(waiting(m))
	m.Tasks = q.L
	if final {
		m = settled(m)
	}
	m = ran(m, drain.Prog(m.Progs, t.Prog))
	if final {
		m = settled(rooted(m, own, 0))
	}
	return m
}

func ran(m Model, l []code.Op) Model {
	for _, o := range l {
		m, _ = done(m, o)
	}
	return m
}
