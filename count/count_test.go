package count

import (
	"math"
	"testing"

	"mortmain/api"
)

// P4.1
func TestIncDecStuck(t *testing.T) {
	for _, c := range []struct {
		c, inc, dec int
		e           api.Errno
		stuck       bool
	}{
		{math.MinInt, 1, 0, api.ErrZero, false}, {-2, 1, 0, api.ErrZero, false}, {-1, 1, 0, api.ErrZero, false},
		{0, 1, 0, api.ErrZero, false}, {1, 2, 0, api.OK, false}, {5, 6, 4, api.OK, false}, {11, 12, 10, api.OK, false},
		{12, 12, 12, api.OK, true}, {13, 12, 12, api.OK, true}, {math.MaxInt, 12, 12, api.OK, true},
	} {
		dec, e := Dec(c.c)
		if Inc(c.c) != c.inc || dec != c.dec || e != c.e || Stuck(c.c) != c.stuck {
			t.Error(c, Inc(c.c), dec, e, Stuck(c.c))
		}
	}
}

// P4.2
func TestAdd(t *testing.T) {
	for _, x := range [][3]int{
		{3, 4, 7}, {3, 8, 11}, {3, 9, 12}, {3, 10, 12}, {0, math.MaxInt, 12}, {-5, 1, 1}, {-5, 3, 3},
		{15, 1, 12}, {15, math.MaxInt, 12}, {15, 0, 15}, {15, -1, 15}, {-5, 0, -5}, {7, math.MinInt, 7},
	} {
		if n := Add(x[0], x[1]); n != x[2] {
			t.Error(x, n)
		}
	}
}

// P4.2
func TestSub(t *testing.T) {
	for _, c := range []struct {
		c, n, rest int
		e          api.Errno
	}{
		{5, 2, 3, api.OK}, {5, 5, 0, api.OK}, {5, 6, 0, api.ErrZero}, {5, math.MaxInt, 0, api.ErrZero},
		{11, 11, 0, api.OK}, {12, 1, 12, api.OK}, {12, math.MaxInt, 12, api.OK}, {20, 1, 12, api.OK}, {20, math.MaxInt, 12, api.OK},
		{0, 1, 0, api.ErrZero}, {-3, 1, 0, api.ErrZero}, {-3, 0, -3, api.OK}, {-3, math.MinInt, -3, api.OK}, {20, 0, 20, api.OK},
	} {
		if rest, e := Sub(c.c, c.n); rest != c.rest || e != c.e {
			t.Error(c, rest, e)
		}
	}
}

// P4.2, P4.3
func TestAddAndSubAreStepsOfOne(t *testing.T) {
	for c := -3; c < 20; c++ {
		for n := range 20 {
			up, down, e := c, c, api.OK
			for range n {
				up = Inc(up)
				if e == api.OK {
					down, e = Dec(down)
				}
			}
			rest, got := Sub(c, n)
			if Add(c, n) != up || rest != down || got != e {
				t.Error(c, n, Add(c, n), up, rest, down, got, e)
			}
		}
	}
}

// P4.3
func TestStuckStaysStuck(t *testing.T) {
	c := Add(0, api.MaxCount)
	for range 40 {
		c, _ = Dec(c)
	}
	if !Stuck(c) || !Stuck(Inc(c)) {
		t.Error(c)
	}
	if n, e := Sub(Add(0, 11), 11); n != 0 || e != api.OK {
		t.Error(n, e)
	}
}
