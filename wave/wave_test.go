package wave_test

import (
	"math"
	"slices"
	"testing"

	"pennant/wave"
)

// odd are numbers at the edges, and far beyond them.
var odd = []int{math.MinInt, math.MinInt32, -100, -1, 0, 1, 2, 99, 100, 101, 4095, 4096, 4097, 1<<30 - 1, 1 << 30, 1<<30 + 1, math.MaxInt32, math.MaxInt}

// right holds Right against the chapter.
func right(t testing.TB, parts []int) {
	t.Helper()
	before := slices.Clone(parts)
	if is := wave.Right(parts); is != partsMay(before) {
		t.Fatalf("Right(%v): %v", parts, is)
	}
	if !slices.Equal(parts, before) {
		t.Fatalf("%v was changed to %v", before, parts)
	}
}

// P15.1: parts that may be and that may not.
func TestRightKnown(t *testing.T) {
	for _, parts := range [][]int{
		{100}, {1, 100}, {99, 100}, {10, 100}, {1, 2, 3, 4, 5, 6, 7, 100}, {93, 94, 95, 96, 97, 98, 99, 100}, {1, 5, 10, 25, 50, 75, 90, 100},
	} {
		if !wave.Right(parts) {
			t.Errorf("Right(%v) is false", parts)
		}
	}
	for _, parts := range [][]int{
		nil, {}, {0}, {1}, {99}, {101}, {-100}, {0, 100}, {-1, 100}, {100, 100}, {50, 50, 100}, {60, 50, 100}, {100, 50},
		{50, 99}, {50, 101}, {100, 101}, {50, 100, 101}, {50, 100, 50}, {50, 100, 100}, {99, 101, 100}, {1, 200, 100},
		{math.MinInt, 100}, {math.MaxInt, 100}, {1, math.MaxInt}, {1, 2, 3, 4, 5, 6, 7, 8, 100}, {92, 93, 94, 95, 96, 97, 98, 99, 100},
		{1, 2, 3, 4, 5, 6, 7, 8}, {0, 1, 2, 3, 4, 5, 6, 7, 100},
	} {
		if wave.Right(parts) {
			t.Errorf("Right(%v) is true", parts)
		}
	}
}

// P15.1: all parts of one number and of two, and of three near the edges.
func TestRightOfFew(t *testing.T) {
	right(t, nil)
	right(t, []int{})
	for a := -2; a <= 103; a++ {
		right(t, []int{a})
		for b := -2; b <= 103; b++ {
			right(t, []int{a, b})
		}
	}
	few := []int{-1, 0, 1, 2, 3, 49, 50, 51, 97, 98, 99, 100, 101}
	for _, a := range append(few, odd...) {
		for _, b := range append(few, odd...) {
			for _, c := range append(few, odd...) {
				right(t, []int{a, b, c})
			}
		}
	}
}

// P15.1: of each count, with each number put in the place of each.
func TestRightOfMany(t *testing.T) {
	for n := 1; n <= 12; n++ {
		for _, step := range []int{1, 3, 8} {
			parts := make([]int, n)
			for i := range parts {
				parts[i] = 100 - (n-1-i)*step
			}
			right(t, parts)
			for i, was := range parts {
				for x := -1; x <= 102; x++ {
					parts[i] = x
					right(t, parts)
				}
				for _, x := range odd {
					parts[i] = x
					right(t, parts)
				}
				parts[i] = was
			}
		}
	}
	right(t, upTo(100)[92:])
	right(t, upTo(100)[91:])
	right(t, upTo(100))
	right(t, make([]int, 1<<20))
}

// FuzzRight: parts of any bytes.
func FuzzRight(f *testing.F) {
	f.Add([]byte{100})
	f.Add([]byte{10, 50, 100})
	f.Add([]byte{1, 2, 3, 4, 5, 6, 7, 100})
	f.Fuzz(func(t *testing.T, b []byte) {
		parts := make([]int, len(b))
		for i, x := range b {
			parts[i] = int(int8(x))
		}
		right(t, parts)
	})
}
