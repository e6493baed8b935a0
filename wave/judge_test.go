package wave_test

import (
	"math"
	"math/rand"
	"testing"

	"pennant/api"
	"pennant/wave"
)

// judge holds a Judge against the chapter, and tells what it is.
func judge(t testing.TB, n, good, bad, pass, halt int) int {
	t.Helper()
	is, e := wave.Judge(n, good, bad, pass, halt)
	if want, we := judged(n, good, bad, pass, halt); is != want || e != we {
		t.Fatalf("Judge(%d, %d, %d, %d, %d): %d, %d, not %d, %d", n, good, bad, pass, halt, is, e, want, we)
	}
	return is
}

// P15.3: what is known, just at the bounds and beside them.
func TestJudgeKnown(t *testing.T) {
	const most = 1 << 30
	for _, c := range []struct{ n, good, bad, pass, halt, want int }{
		{10, 8, 1, 80, 10, api.Pass},
		{10, 8, 2, 80, 10, api.Halt},
		{10, 7, 1, 80, 10, api.Wait},
		{10, 10, 2, 80, 10, api.Halt},
		{10, 0, 0, 80, 10, api.Wait},
		{10, 0, 0, 0, 10, api.Pass},
		{10, 0, 1, 0, 0, api.Halt},
		{10, 10, 0, 100, 0, api.Pass},
		{10, 9, 0, 100, 0, api.Wait},
		{10, 0, 10, 100, 100, api.Wait},
		{10, 0, 11, 100, 100, api.Halt},
		{3, 2, 0, 67, 0, api.Wait},
		{3, 2, 0, 66, 0, api.Pass},
		{3, 0, 1, 100, 33, api.Halt},
		{3, 0, 1, 100, 34, api.Wait},
		{0, 0, 0, 100, 0, api.Pass},
		{0, 0, 1, 0, 100, api.Halt},
		{0, 5, 0, 100, 0, api.Pass},
		{most, most, 0, 100, 0, api.Pass},
		{most, most - 1, 0, 100, 0, api.Wait},
		{most, 0, most, 100, 100, api.Wait},
		{most - 1, 0, most, 100, 100, api.Halt},
		{most, 0, 0, 0, 0, api.Pass},
		{most, 0, 0, 1, 0, api.Wait},
		{most, 0, 1, 0, 0, api.Halt},
		{1, most, most, 100, 100, api.Halt},
	} {
		if is, e := wave.Judge(c.n, c.good, c.bad, c.pass, c.halt); is != c.want || e != api.OK {
			t.Errorf("Judge%v: %d, %d", c, is, e)
		}
	}
}

// P15.3: each of the five numbers at the edges and far beyond them.
func TestJudgeErrArg(t *testing.T) {
	most := [5]int{1 << 30, 1 << 30, 1 << 30, 100, 100}
	for i := range most {
		for _, x := range append([]int{most[i] - 1, most[i], most[i] + 1}, odd...) {
			for _, a := range [][5]int{{}, {10, 8, 1, 80, 10}, {10, 8, 2, 80, 10}, {10, 7, 1, 80, 10}, most} {
				a[i] = x
				is, e := wave.Judge(a[0], a[1], a[2], a[3], a[4])
				if wrong := x < 0 || x > most[i]; wrong != (e == api.ErrArg) || wrong && is != 0 || !wrong && e != api.OK {
					t.Errorf("Judge%v: %d, %d", a, is, e)
				}
				judge(t, a[0], a[1], a[2], a[3], a[4])
			}
		}
	}
}

// P15.3: all of small waves, at all parts.
func TestJudgeOfFew(t *testing.T) {
	for n := range 8 {
		for good := range n + 2 {
			for bad := range n + 2 {
				for pass := range 101 {
					for halt := range 101 {
						is, e := wave.Judge(n, good, bad, pass, halt)
						want := api.Wait
						if 100*bad > halt*n {
							want = api.Halt
						} else if 100*good >= pass*n {
							want = api.Pass
						}
						if is != want || e != api.OK {
							t.Fatalf("Judge(%d, %d, %d, %d, %d): %d, %d", n, good, bad, pass, halt, is, e)
						}
					}
				}
			}
		}
	}
}

// P15.3: of great waves, just at where one thing becomes another.
func TestJudgeAtTheBounds(t *testing.T) {
	for _, n := range []int{100, 101, 999, 1000, 4096, 1<<16 + 1, 1<<25 - 1, 1 << 29, 1<<30 - 1, 1 << 30} {
		for part := range 101 {
			at := int(int64(n) * int64(part) / 100)
			for x := max(at-1, 0); x <= min(at+2, 1<<30); x++ {
				judge(t, n, x, 0, part, 100)
				judge(t, n, 0, x, 100, part)
				judge(t, n, n, x, 100, part)
				judge(t, n, x, x, part, part)
			}
		}
	}
}

// P15.4: Pass stays Pass with more that is good, and with less that is bad; Halt stays Halt with more that is bad.
func TestJudgeTheorem(t *testing.T) {
	chance := rand.New(rand.NewSource(5))
	number := func() int { return chance.Intn(1 << (1 + chance.Intn(30))) }
	seen := map[int]int{}
	for range 200000 {
		n := number()
		good, bad, pass, halt := min(number(), n), min(number(), n), chance.Intn(101), chance.Intn(101)
		is := judge(t, n, good, bad, pass, halt)
		seen[is]++
		more, less, worse := good+number(), chance.Intn(bad+1), bad+number()
		if is == api.Pass && (judge(t, n, min(more, 1<<30), bad, pass, halt) != api.Pass || judge(t, n, good, less, pass, halt) != api.Pass) {
			t.Fatalf("Judge(%d, %d, %d, %d, %d) is Pass, and not with %d good or %d bad", n, good, bad, pass, halt, more, less)
		}
		if is == api.Halt && judge(t, n, good, min(worse, 1<<30), pass, halt) != api.Halt {
			t.Fatalf("Judge(%d, %d, %d, %d, %d) is Halt, and not with %d bad", n, good, bad, pass, halt, worse)
		}
	}
	for _, is := range []int{api.Wait, api.Pass, api.Halt} {
		if seen[is] < 1000 {
			t.Errorf("only %d were judged %d", seen[is], is)
		}
	}
}

// FuzzJudge: any numbers.
func FuzzJudge(f *testing.F) {
	f.Add(10, 8, 1, 80, 10)
	f.Add(1<<30, 1<<30, 1<<30, 100, 100)
	f.Add(math.MaxInt, math.MinInt, 0, -1, 101)
	f.Fuzz(func(t *testing.T, n, good, bad, pass, halt int) { judge(t, n, good, bad, pass, halt) })
}
