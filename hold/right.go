package hold

import (
	"slices"

	"mortmain/api"
	"mortmain/ephem"
	"mortmain/handle"
	"mortmain/hash"
	"mortmain/slab"
	"mortmain/store"
	"mortmain/task"
	"mortmain/trial"
	"mortmain/weak"
)

func Right(x Heap) bool {
	// The shapes come first: what is asked behind them is promised of right stores and tables only.
	if !shapesFit(x) {
		return false
	}
	for _, fits := range []func(Heap) bool{namesLive, pairsLive, tasksFit, cellsFit, foundFit} {
		if !fits(x) {
			return false
		}
	}
	return trial.Fair(x.S, x.T, Outer(x))
}

func shapesFit(x Heap) bool {
	room := task.New().Cap
	return store.Right(x.S) && hash.Right(x.T) && len(x.Roots) == api.Roots && len(x.Cells) == api.Cells &&
		x.Q.Cap == room && len(x.Q.L) <= room
}

func namesLive(x Heap) bool {
	names := slices.Clone(x.Roots)
	for _, h := range store.Live(x.S) {
		o, _ := store.Get(x.S, h)
		names = append(names, o.Fields...)
	}
	return all(names, func(h int) bool { return nameable(x, h) })
}

func pairsLive(x Heap) bool {
	return all(ephem.Pairs(x.T), func(p ephem.Pair) bool { return isLive(x, p.Key) && isLive(x, p.Val) })
}

func tasksFit(x Heap) bool {
	// Two tasks of one kind differ by At alone: Prog is no part of what they are for.
	seen := map[task.Task]bool{}
	return all(x.Q.L, func(t task.Task) bool {
		self := task.Task{Kind: t.Kind, At: t.At}
		again := seen[self]
		seen[self] = true
		return !again && t.Prog >= 0 && t.Prog < api.MaxProgs && taskIsFor(x, t)
	})
}

func taskIsFor(x Heap, t task.Task) bool {
	switch t.Kind {
	case task.Final:
		o, e := store.Get(x.S, t.At)
		return e == api.OK && o.Started
	case task.Call:
		return t.At >= 0 && t.At < len(x.Cells) && !x.Cells[t.At].Intact
	}
	return false
}

func cellsFit(x Heap) bool {
	return all(x.Cells, func(c weak.Cell) bool {
		if c.Call < -1 || c.Call >= api.MaxProgs {
			return false
		}
		if c.Intact {
			return isLive(x, c.Target)
		}
		_, e := slab.Find(x.S.S, c.Target)
		return c.Target == 0 || e == api.OK
	})
}

// foundFit asks of all that are found, Live or Dead.
func foundFit(x Heap) bool {
	for place, c := range x.S.S.Cells {
		if c.State != slab.Live && c.State != slab.Dead {
			continue
		}
		if c.Val.Weak != weak.Naming(x.Cells, handle.Pack(place, c.Gen)) {
			return false
		}
		if c.State == slab.Dead && (c.Val.Weak < 1 || len(c.Val.Fields) > 0 || c.Val.Strong != 0) {
			return false
		}
	}
	return true
}

func all[T any](l []T, fits func(T) bool) bool {
	for _, x := range l {
		if !fits(x) {
			return false
		}
	}
	return true
}
