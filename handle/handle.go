// Package handle is layer 1: see shared/doc/01-handle.md.
package handle

import "mortmain/api"

// A part's step is what one more of it adds to a handle. Slots have five bits,
// so that the steps go from 1 to 32 as they are counted.
const (
	slotStep = 1 << (5 * iota)
	genStep
)

// lowest is the handle of slot 0 and generation 0: 0 itself has to name nothing.
const lowest = 1

func Pack(slot, gen int) int {
	if slot < 0 || slot >= api.MaxSlots || gen < 0 || gen > api.MaxGen {
		return 0
	}
	return lowest + slot*slotStep + gen*genStep
}

func Valid(h int) bool {
	_, _, ok := parts(h)
	return ok
}

func Slot(h int) int {
	slot, _, _ := parts(h)
	return slot
}

func Gen(h int) int {
	_, gen, _ := parts(h)
	return gen
}

func Next(h int) int {
	slot, gen, _ := parts(h)
	return Pack(slot, gen+1)
}

func parts(h int) (slot, gen int, ok bool) {
	if h < lowest {
		return -1, -1, false
	}
	slot, gen = (h-lowest)%genStep/slotStep, (h-lowest)/genStep
	if slot >= api.MaxSlots || gen > api.MaxGen {
		return -1, -1, false
	}
	return slot, gen, true
}
