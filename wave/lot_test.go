package wave

import (
	"slices"
	"testing"
)

// P15.2: of the same lot devices come rising. No two devices of a campaign ever have one (TestNoTwoOfOneLot of package wave_test), so that only lots that are made up can show it.
func TestOrderOfTheSameLot(t *testing.T) {
	for _, c := range []struct {
		lots map[int]uint32
		want []int
	}{
		{map[int]uint32{}, nil},
		{map[int]uint32{4096: 0}, []int{4096}},
		{map[int]uint32{1: 7, 2: 7, 10: 7, 9: 7}, []int{1, 2, 9, 10}},
		{map[int]uint32{1: 8, 2: 7, 3: 8, 4: 7}, []int{2, 4, 1, 3}},
		{map[int]uint32{1: 0xFFFFFF, 2: 0, 3: 0xFFFFFF, 4: 0, 5: 0x800000}, []int{2, 4, 5, 1, 3}},
	} {
		for range 20 { // a map is gone through in another order each time
			if l := inOrder(c.lots); !slices.Equal(l, c.want) {
				t.Fatalf("inOrder(%v): %v, not %v", c.lots, l, c.want)
			}
		}
	}
}

// P15.2: many devices of few lots.
func TestOrderOfFewLots(t *testing.T) {
	lots := map[int]uint32{}
	for d := 1; d <= 4096; d++ {
		lots[d] = uint32(d*d) % 7
	}
	l := inOrder(lots)
	if len(l) != len(lots) {
		t.Fatalf("%d devices, not %d", len(l), len(lots))
	}
	for i, d := range l[1:] {
		ahead := l[i]
		if lots[ahead] > lots[d] || lots[ahead] == lots[d] && ahead >= d {
			t.Fatalf("%d of the lot %d is ahead of %d of the lot %d", ahead, lots[ahead], d, lots[d])
		}
	}
}
