package code

import (
	"math"
	"slices"
	"testing"

	"mortmain/api"
)

// P17.1: each kind with the bounds of its numbers, in the order in which they are asked; nothing else is asked.
func TestCheckAsksOfEachKindInItsOrder(t *testing.T) {
	type bound struct {
		part, least, most int
		e                 api.Errno
	}
	r := func(part int) bound { return bound{part, 0, 5, api.ErrRoot} }
	kinds := map[int][]bound{
		1:  {r(0), {1, 0, 4, api.ErrArg}, {2, -1, 5, api.ErrProg}},
		2:  {r(0), r(1)},
		3:  {r(0)},
		4:  {r(0), r(1), {2, 0, 3, api.ErrField}},
		5:  {r(0), {1, 0, 3, api.ErrField}, {2, -1, 5, api.ErrRoot}},
		6:  {{0, 0, 5, api.ErrCell}, {1, -1, 5, api.ErrRoot}, {2, -1, 5, api.ErrProg}},
		7:  {r(0), {1, 0, 5, api.ErrCell}},
		8:  {r(0), {1, -1, 5, api.ErrRoot}},
		9:  {r(0), r(1)},
		10: {r(0), r(1)},
		11: {},
		12: {{0, 0, 200, api.ErrFuel}},
	}
	tried := []int{math.MinInt, -2, -1, 0, 3, 4, 5, 6, 200, 201, math.MaxInt}
	for kind, bounds := range kinds {
		for _, a := range tried {
			for _, b := range tried {
				for _, c := range tried {
					want := api.OK
					for _, x := range bounds {
						if n := []int{a, b, c}[x.part]; (n < x.least || n > x.most) && want == api.OK {
							want = x.e
						}
					}
					if e := Check(Op{kind, a, b, c}); e != want {
						t.Error(kind, a, b, c, e, want)
					}
				}
			}
		}
	}
}

// P17.1
func TestCheckOfNoKind(t *testing.T) {
	for _, kind := range []int{0, -1, 13, math.MinInt, math.MaxInt} {
		if e := Check(Op{kind, 0, 0, 0}); e != api.ErrOp {
			t.Error(kind, e)
		}
		if e := Check(Op{kind, -9, 99, 99}); e != api.ErrOp {
			t.Error(kind, e)
		}
	}
}

// P17.2
func TestDecode(t *testing.T) {
	for _, x := range []struct {
		l []int
		o Op
		e api.Errno
	}{
		{[]int{2, 0, 5, 9}, Op{2, 0, 5, 9}, api.OK},
		{[]int{2, 0, 6, 9}, Op{}, api.ErrRoot},
		{[]int{12, 200, -7, 9}, Op{12, 200, -7, 9}, api.OK},
		{[]int{12, 201, 0, 0}, Op{}, api.ErrFuel},
		{[]int{0, 0, 0, 0}, Op{}, api.ErrOp},
		{nil, Op{}, api.ErrOp},
		{[]int{11, 0, 0}, Op{}, api.ErrOp},
		{[]int{2, 6, 0, 0, 0}, Op{}, api.ErrOp},
	} {
		if o, e := Decode(x.l); o != x.o || e != x.e {
			t.Error(x, o, e)
		}
	}
}

// P17.2, P17.4
func TestEncode(t *testing.T) {
	if l := Encode(Op{99, -1, math.MaxInt, 4}); !slices.Equal(l, []int{99, -1, math.MaxInt, 4}) {
		t.Error(l)
	}
	for kind := -1; kind < 15; kind++ {
		o := Op{kind, 1, 2, 3}
		got, e := Decode(Encode(o))
		if e != Check(o) || e == api.OK && got != o || e != api.OK && got != (Op{}) {
			t.Error(o, got, e)
		}
	}
}

// P17.2
func TestPlain(t *testing.T) {
	for kind := -2; kind < 16; kind++ {
		if Plain(Op{kind, -99, 99, 99}) != (kind >= 1 && kind <= 10) {
			t.Error(kind)
		}
	}
	if Plain(Op{Kind: math.MinInt}) || Plain(Op{Kind: math.MaxInt}) {
		t.Error("no kind")
	}
}

// P17.3
func TestProgs(t *testing.T) {
	op := Op{Drop, 1, 0, 0}
	six := []Op{op, op, op, op, op, op}
	for i, x := range []struct {
		l  [][]Op
		ok bool
	}{
		{nil, true},
		{[][]Op{nil, six, {}, six, six, six}, true},
		{make([][]Op, 7), false},
		{[][]Op{append(six, op)}, false},
		{[][]Op{six, {op, {Drop, 6, 0, 0}}}, false},
		{[][]Op{{{Collect, 0, 0, 0}}}, false},
		{[][]Op{six, {{Drain, 0, 0, 0}}}, false},
		{[][]Op{{{0, 0, 0, 0}}}, false},
		{[][]Op{{{Same, 5, 5, 77}}}, true},
		{[][]Op{{{New, 0, 5, 0}}}, false},
	} {
		if ok := Progs(x.l); ok != x.ok {
			t.Error(i, ok)
		}
	}
}

// The numbers of the kinds, as the chapter tells them.
func TestKinds(t *testing.T) {
	if l := []int{New, Copy, Drop, Load, Store, Weak, Up, Pair, Get, Same, Collect, Drain}; !slices.Equal(l, []int{1, 2, 3, 4, 5, 6, 7, 8, 9, 10, 11, 12}) {
		t.Error(l)
	}
}
