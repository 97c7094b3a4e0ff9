package code

import "mortmain/api"

// demand is what a kind asks of one of an operation's numbers.
type demand struct {
	part        func(Op) int
	least, most int
	e           api.Errno
}

// asking tells demands in the order in which they are to be met: the first one that is not is the error.
func asking(l ...demand) []demand { return l }

func demands() map[int][]demand {
	return map[int][]demand{
		New:     asking(root(partA), demand{partB, 0, api.MaxArity, api.ErrArg}, program(partC)),
		Copy:    asking(root(partA), root(partB)),
		Drop:    asking(root(partA)),
		Load:    asking(root(partA), root(partB), field(partC)),
		Store:   asking(root(partA), field(partB), rootOrNone(partC)),
		Weak:    asking(cell(partA), rootOrNone(partB), program(partC)),
		Up:      asking(root(partA), cell(partB)),
		Pair:    asking(root(partA), rootOrNone(partB)),
		Get:     asking(root(partA), root(partB)),
		Same:    asking(root(partA), root(partB)),
		Collect: asking(),
		Drain:   asking(demand{partA, 0, api.MaxFuel, api.ErrFuel}),
	}
}

func partA(o Op) int { return o.A }

func partB(o Op) int { return o.B }

func partC(o Op) int { return o.C }

func root(part func(Op) int) demand { return demand{part, 0, api.Roots - 1, api.ErrRoot} }

func rootOrNone(part func(Op) int) demand { return demand{part, -1, api.Roots - 1, api.ErrRoot} }

func cell(part func(Op) int) demand { return demand{part, 0, api.Cells - 1, api.ErrCell} }

func field(part func(Op) int) demand { return demand{part, 0, api.MaxArity - 1, api.ErrField} }

func program(part func(Op) int) demand { return demand{part, -1, api.MaxProgs - 1, api.ErrProg} }
