package model

import (
	"iter"
	"slices"

	"mortmain/api"
	"mortmain/ephem"
	"mortmain/queue"
	"mortmain/task"
)

// names tells all that holds an object: every name is counted here, and nowhere else.
func names(m Model) iter.Seq[int] {
	return func(yield func(int) bool) {
		lists := [][]int{m.Roots, mapped(m.Pairs, func(p ephem.Pair) int { return p.Val }), task.Held(waiting(m))}
		for _, n := range picked(m.Nodes, isAlive) {
			lists = append(lists, n.Fields)
		}
		for _, s := range slices.Concat(lists...) {
			if !yield(s) {
				return
			}
		}
	}
}

// reached goes by names from what is held from outside, and by the rule of pairs.
func reached(m Model) map[int]bool {
	stuck := serials(picked(m.Nodes, func(n Node) bool { return n.Stuck }))
	seen := map[int]bool{0: true}
	todo := queue.New[int](len(m.Nodes))
	push := func(l []int) {
		for _, s := range l {
			if !seen[s] {
				seen[s] = true
				todo, _ = queue.Push(todo, s)
			}
		}
	}
	push(slices.Concat(m.Roots, task.Held(waiting(m)), stuck))
	for queue.Len(todo) > 0 {
		var s int
		todo, s, _ = queue.Pop(todo)
		push(m.Nodes[node(m, s)].Fields)
		push(valuesOf(m, s))
	}
	return seen
}

func valuesOf(m Model, key int) []int {
	owned := picked(m.Pairs, func(p ephem.Pair) bool { return p.Key == key })
	return mapped(owned, func(p ephem.Pair) int { return p.Val })
}

// anew is what comes of an object by one more name, ahead of the place that says it.
func anew(m Model, s int) Model {
	if Names(m, s) < api.MaxCount-1 {
		return m
	}
	return changed(m, s, func(n Node) Node {
		n.Stuck = true
		return n
	})
}

func changed(m Model, s int, change func(Node) Node) Model {
	at := node(m, s)
	m.Nodes = slices.Clone(m.Nodes)
	m.Nodes[at] = change(m.Nodes[at])
	return m
}

func picked[T any](l []T, wanted func(T) bool) []T {
	var p []T
	for _, x := range l {
		if wanted(x) {
			p = append(p, x)
		}
	}
	return p
}

func mapped[T, U any](l []T, to func(T) U) []U {
	var u []U
	for _, x := range l {
		u = append(u, to(x))
	}
	return u
}
