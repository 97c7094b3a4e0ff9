package store

import (
	"mortmain/api"
	"mortmain/slab"
)

// rule is one of those that each cell of a right store keeps.
type rule struct {
	kept func(s Store, c slab.Cell[Obj]) bool
}

func Right(s Store) bool {
	if len(s.S.Cells) > api.MaxSlots || s.S.Last < 0 || s.S.Last > api.MaxGen || s.Serial < 0 {
		return false
	}
	for _, c := range s.S.Cells {
		for _, r := range rules() {
			if !r.kept(s, c) {
				return false
			}
		}
	}
	return serialsDiffer(s)
}

func rules() []rule {
	return []rule{{stateFits}, {generationFits}, {objectFits}, {nothingIsLeft}}
}

func stateFits(_ Store, c slab.Cell[Obj]) bool {
	return c.State >= slab.Free && c.State <= slab.Retired
}

func generationFits(s Store, c slab.Cell[Obj]) bool {
	return c.Gen >= 0 && c.Gen <= s.S.Last
}

func objectFits(s Store, c slab.Cell[Obj]) bool {
	o := c.Val
	return !holdsObject(c) || o.Serial >= 1 && o.Serial <= s.Serial && o.Strong >= 0 && o.Weak >= 0 &&
		programFits(o.Prog) && len(o.Fields) <= api.MaxArity
}

func nothingIsLeft(_ Store, c slab.Cell[Obj]) bool {
	o := c.Val
	numbers := [4]int{o.Serial, o.Strong, o.Weak, o.Prog}
	return holdsObject(c) || numbers == [4]int{} && !o.Started && len(o.Fields) == 0
}

func serialsDiffer(s Store) bool {
	seen := map[int]bool{}
	for _, c := range s.S.Cells {
		if !holdsObject(c) {
			continue
		}
		if seen[c.Val.Serial] {
			return false
		}
		seen[c.Val.Serial] = true
	}
	return true
}

func holdsObject(c slab.Cell[Obj]) bool { return c.State == slab.Live || c.State == slab.Dead }
