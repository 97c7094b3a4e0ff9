package handle

import (
	"math"
	"testing"

	"mortmain/api"
)

// P1.1, P1.2, P1.3
func TestEverySlotAndGenerationHasItsOwnHandle(t *testing.T) {
	seen := map[int]bool{0: true}
	for slot := range api.MaxSlots {
		for gen := range api.MaxGen + 1 {
			h := Pack(slot, gen)
			if h != 1+slot+32*gen || seen[h] || !Valid(h) {
				t.Errorf("Pack(%d, %d) = %d, seen %v, valid %v", slot, gen, h, seen[h], Valid(h))
			}
			seen[h] = true
			if Slot(h) != slot || Gen(h) != gen {
				t.Errorf("%d: slot %d, gen %d", h, Slot(h), Gen(h))
			}
		}
	}
}

// P1.1
func TestPackOfWhatIsOutOfRange(t *testing.T) {
	for _, x := range [][2]int{{-1, 0}, {24, 0}, {0, -1}, {0, 10}, {math.MinInt, 0}, {0, math.MinInt}, {math.MaxInt, math.MaxInt}, {32, 0}, {-32, 1}} {
		if h := Pack(x[0], x[1]); h != 0 {
			t.Errorf("Pack(%d, %d) = %d", x[0], x[1], h)
		}
	}
}

// P1.1, P1.2
func TestWhatIsNoHandle(t *testing.T) {
	valid := map[int]bool{}
	for slot := range api.MaxSlots {
		for gen := range api.MaxGen + 1 {
			valid[Pack(slot, gen)] = true
		}
	}
	tried := []int{math.MinInt, math.MinInt + 1, math.MaxInt, math.MaxInt - 1}
	for h := -400; h < 800; h++ {
		tried = append(tried, h)
	}
	for _, h := range tried {
		if valid[h] {
			continue
		}
		if Valid(h) || Slot(h) != -1 || Gen(h) != -1 || Next(h) != 0 {
			t.Errorf("%d: %v, %d, %d, %d", h, Valid(h), Slot(h), Gen(h), Next(h))
		}
	}
}

// P1.2
func TestNextIsOfTheSameSlot(t *testing.T) {
	for slot := range api.MaxSlots {
		for gen := range api.MaxGen {
			if n := Next(Pack(slot, gen)); n != Pack(slot, gen+1) {
				t.Errorf("Next of slot %d, gen %d: %d", slot, gen, n)
			}
		}
		if n := Next(Pack(slot, api.MaxGen)); n != 0 {
			t.Errorf("Next of the last of slot %d: %d", slot, n)
		}
	}
	if Pack(2, 1) != 35 || Next(35) != 67 {
		t.Error(Pack(2, 1), Next(35))
	}
}
