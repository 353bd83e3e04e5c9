package seq_test

import (
	"math"
	"math/big"
	"testing"

	"lapwing/seq"
)

// numbers are from 0 to 127 at the edges and between, next to multiples of 128 on both sides, at places where a number cut to fewer bits would be another, and far out.
var numbers = []int{
	0, 1, 2, 3, 7, 63, 64, 65, 125, 126, 127,
	128, 129, 130, 191, 192, 254, 255, 256, 257, 383, 384, 385, 32767, 32768, 65535, 65536, 1000003,
	-1, -2, -3, -63, -64, -65, -125, -126, -127, -128, -129, -130, -191, -192, -255, -256, -257, -384, -32768, -32769, -1000003,
	math.MaxInt32, math.MaxInt32 + 1, math.MinInt32, math.MinInt32 - 1, math.MaxUint32, math.MaxUint32 + 1,
	1<<53 + 1, -1<<53 - 1, math.MaxInt/2 + 1, math.MinInt/2 - 1, math.MaxInt - 384, math.MinInt + 384,
	math.MaxInt - 128, math.MaxInt - 127, math.MaxInt - 126, math.MaxInt - 2, math.MaxInt - 1, math.MaxInt,
	math.MinInt + 128, math.MinInt + 127, math.MinInt + 126, math.MinInt + 2, math.MinInt + 1, math.MinInt,
}

// windows are k's at the edges that the chapter names and next to them, and such as look like a good k if they are cut, or taken modulo 128.
var windows = []int{
	1, 2, 3, 7, 63, 64, 125, 126, 127, 128, 129, 130, 255, 256, 257, 999, 1<<16 + 7, 1<<32 + 7, math.MaxInt - 120, math.MaxInt - 1, math.MaxInt,
	0, -1, -2, -4, -121, -126, -127, -128, -129, -256, -1<<16 + 7, -1<<32 + 7, math.MinInt + 7, math.MinInt + 1, math.MinInt,
}

// exactly: a number modulo 128, told with numbers that have no bounds.
func exactly(n *big.Int) int {
	return int(new(big.Int).Mod(n, big.NewInt(128)).Int64()) // Mod is never below 0
}

func exact(n int) *big.Int { return big.NewInt(int64(n)) }

// way: the numbers that are met from va on, one by one, up to vs. Both are from 0 to 127.
func way(va, vs int) []int {
	met := []int{va}
	for n := va; n != vs; {
		n++
		if n == 128 {
			n = 0
		}
		met = append(met, n)
	}
	return met
}

// wordsRoom: what Room is, if so many numbers are met behind the first.
func wordsRoom(steps, k int) int {
	if k < 1 {
		k = 1
	}
	if k > 127 {
		k = 127
	}
	if steps > k {
		return 0
	}
	return k - steps
}

func holdNorm(t *testing.T, n, want int) {
	t.Helper()
	if got := seq.Norm(n); got != want {
		t.Errorf("Norm(%d) = %d, want %d", n, got, want)
	}
}

func holdAdd(t *testing.T, a, n, want int) {
	t.Helper()
	if got := seq.Add(a, n); got != want {
		t.Errorf("Add(%d, %d) = %d, want %d", a, n, got, want)
	}
}

func holdSub(t *testing.T, a, b, want int) {
	t.Helper()
	if got := seq.Sub(a, b); got != want {
		t.Errorf("Sub(%d, %d) = %d, want %d", a, b, got, want)
	}
}

func holdValid(t *testing.T, va, nr, vs int, want bool) {
	t.Helper()
	if got := seq.Valid(va, nr, vs); got != want {
		t.Errorf("Valid(%d, %d, %d) = %t, want %t", va, nr, vs, got, want)
	}
}

func holdRoom(t *testing.T, va, vs, k, want int) {
	t.Helper()
	if got := seq.Room(va, vs, k); got != want {
		t.Errorf("Room(%d, %d, %d) = %d, want %d", va, vs, k, got, want)
	}
}

// The chapter's examples.
func TestExamples(t *testing.T) {
	holdSub(t, 3, 126, 5)
	holdValid(t, 126, 1, 3, true)
	holdValid(t, 126, 4, 3, false)
	holdRoom(t, 126, 3, 7, 2)
}

// P8.1: numbers from 0 to 127 stay, and what differs from them by multiples of 128, on both sides, is the same.
func TestNormNear(t *testing.T) {
	for n := range 128 {
		for turns := -20; turns <= 20; turns++ {
			holdNorm(t, n+128*turns, n)
		}
	}
}

// P8.1: the edges, by numbers that were written out.
func TestNormEdges(t *testing.T) {
	for n, want := range map[int]int{
		0: 0, 1: 1, 127: 127, 128: 0, 129: 1, 255: 127, 256: 0, 257: 1,
		-1: 127, -2: 126, -127: 1, -128: 0, -129: 127, -255: 1, -256: 0, -257: 127,
		math.MaxInt: 127, math.MaxInt - 1: 126, math.MaxInt - 126: 1, math.MaxInt - 127: 0, math.MaxInt - 128: 127,
		math.MinInt: 0, math.MinInt + 1: 1, math.MinInt + 127: 127, math.MinInt + 128: 0, math.MinInt + 129: 1,
	} {
		holdNorm(t, n, want)
	}
}

// P8.1: numbers of all sizes.
func TestNormFar(t *testing.T) {
	for _, n := range numbers {
		holdNorm(t, n, exactly(exact(n)))
	}
	for shift := range 63 {
		for _, n := range []int{1<<shift - 1, 1 << shift, 1<<shift + 1, -1<<shift - 1, -1 << shift, -1<<shift + 1} {
			holdNorm(t, n, exactly(exact(n)))
		}
	}
}

// P8.1: sums and differences of all numbers from 0 to 127.
func TestAddSubAll(t *testing.T) {
	for a := range 128 {
		further := a
		for n := range 128 {
			holdAdd(t, a, n, further)
			holdSub(t, further, a, n)
			holdSub(t, further, n, a)
			if further++; further == 128 {
				further = 0
			}
		}
	}
}

// P8.1: sums and differences that pass the greatest int, or the least, by numbers that were written out.
func TestAddSubEdges(t *testing.T) {
	for _, x := range [][3]int{
		{127, 1, 0}, {127, 127, 126}, {0, -1, 127}, {0, -128, 0}, {5, -133, 0}, {-1, -1, 126}, {128, 128, 0},
		{math.MaxInt, 1, 0}, {math.MaxInt, 2, 1}, {1, math.MaxInt, 0}, {math.MaxInt, math.MaxInt, 126},
		{math.MinInt, -1, 127}, {-1, math.MinInt, 127}, {math.MinInt, math.MinInt, 0}, {math.MinInt, math.MaxInt, 127},
	} {
		holdAdd(t, x[0], x[1], x[2])
	}
	for _, x := range [][3]int{
		{0, 1, 127}, {0, 127, 1}, {127, 0, 127}, {5, 5, 0}, {0, 128, 0}, {0, -1, 1}, {-1, 0, 127}, {-1, -2, 1}, {-128, 127, 1},
		{math.MaxInt, -1, 0}, {math.MaxInt, math.MinInt, 127}, {math.MinInt, 1, 127}, {math.MinInt, math.MaxInt, 1},
		{0, math.MinInt, 0}, {-1, math.MinInt, 127}, {0, math.MaxInt, 1}, {-2, math.MaxInt, 127},
		{math.MinInt, math.MinInt, 0}, {math.MaxInt, math.MaxInt, 0},
	} {
		holdSub(t, x[0], x[1], x[2])
	}
}

// P8.1: sums and differences of numbers of all sizes, in each place.
func TestAddSubFar(t *testing.T) {
	for _, a := range numbers {
		for _, b := range numbers {
			holdAdd(t, a, b, exactly(new(big.Int).Add(exact(a), exact(b))))
			holdSub(t, a, b, exactly(new(big.Int).Sub(exact(a), exact(b))))
		}
	}
}

// P8.2: of all numbers from 0 to 127 just those are valid that are met.
func TestValidAll(t *testing.T) {
	for va := range 128 {
		for vs := range 128 {
			var met [128]bool
			for _, n := range way(va, vs) {
				met[n] = true
			}
			for nr, want := range met {
				holdValid(t, va, nr, vs, want)
			}
		}
	}
}

// P8.2: the edges, by numbers that were written out: nr at va and at vs and next to both on either side.
func TestValidEdges(t *testing.T) {
	for _, x := range []struct {
		va, nr, vs int
		want       bool
	}{
		{10, 9, 20, false}, {10, 10, 20, true}, {10, 11, 20, true}, {10, 19, 20, true}, {10, 20, 20, true}, {10, 21, 20, false},
		{7, 6, 7, false}, {7, 7, 7, true}, {7, 8, 7, false}, {0, 127, 0, false}, {0, 0, 0, true}, {127, 0, 127, false}, {127, 127, 127, true},
		{126, 125, 3, false}, {126, 126, 3, true}, {126, 127, 3, true}, {126, 0, 3, true}, {126, 2, 3, true}, {126, 3, 3, true}, {126, 64, 3, false},
		{127, 126, 0, false}, {127, 127, 0, true}, {127, 0, 0, true}, {127, 1, 0, false},
		{0, 127, 127, true}, {5, 4, 4, true}, {5, 5, 4, true}, {5, 100, 4, true},
		{-2, 129, 131, true}, {-2, 132, 131, false}, {-2, -3, 131, false}, {128, 0, -128, true}, {128, 1, -128, false},
		{math.MaxInt, math.MinInt, 0, true}, {math.MaxInt, math.MinInt + 1, 0, false}, {math.MaxInt, 127, math.MinInt, true},
		{math.MinInt, 64, math.MaxInt, true}, {math.MinInt, 1, math.MinInt, false}, {math.MinInt, math.MinInt, math.MinInt, true},
	} {
		holdValid(t, x.va, x.nr, x.vs, x.want)
	}
}

// P8.2: numbers that aren't from 0 to 127, in each place, count as what they are modulo 128.
func TestValidFar(t *testing.T) {
	for _, va := range numbers {
		for _, vs := range numbers {
			var met [128]bool
			for _, n := range way(exactly(exact(va)), exactly(exact(vs))) {
				met[n] = true
			}
			for _, nr := range numbers {
				holdValid(t, va, nr, vs, met[exactly(exact(nr))])
			}
		}
	}
}

// P8.2: each way with each k from 1 to 127, and with those beside.
func TestRoomAll(t *testing.T) {
	for va := range 128 {
		for vs := range 128 {
			steps := len(way(va, vs)) - 1
			for k := -3; k <= 131; k++ {
				holdRoom(t, va, vs, k, wordsRoom(steps, k))
			}
		}
	}
}

// P8.2: the edges, by numbers that were written out: the way below k, the same, and above; k out of its bounds, which isn't taken modulo 128.
func TestRoomEdges(t *testing.T) {
	for _, x := range [][4]int{
		{0, 0, 7, 7}, {0, 6, 7, 1}, {0, 7, 7, 0}, {0, 8, 7, 0}, {0, 127, 7, 0},
		{126, 4, 7, 1}, {126, 5, 7, 0}, {126, 6, 7, 0}, {7, 6, 127, 0}, {7, 5, 127, 1}, {7, 7, 127, 127},
		{0, 0, 1, 1}, {0, 1, 1, 0}, {0, 2, 1, 0}, {0, 0, 0, 1}, {0, 1, 0, 0}, {0, 0, -1, 1}, {0, 0, -4, 1}, {0, 1, -4, 0}, {0, 0, -127, 1},
		{0, 0, 126, 126}, {0, 0, 127, 127}, {0, 0, 128, 127}, {0, 1, 128, 126}, {0, 127, 128, 0}, {0, 0, 129, 127}, {0, 0, 999, 127}, {0, 127, 999, 0},
		{0, 0, math.MinInt, 1}, {0, 1, math.MinInt, 0}, {0, 127, math.MinInt, 0}, {0, 0, math.MaxInt, 127}, {0, 127, math.MaxInt, 0}, {0, 126, math.MaxInt, 1},
		{math.MaxInt, math.MinInt, 7, 6}, {math.MinInt, math.MaxInt, math.MaxInt, 0}, {math.MinInt, math.MinInt, math.MinInt, 1}, {-2, 131, 7, 2},
	} {
		holdRoom(t, x[0], x[1], x[2], x[3])
	}
}

// P8.2: numbers that aren't from 0 to 127, in each place, with k's of all sizes.
func TestRoomFar(t *testing.T) {
	for _, va := range numbers {
		for _, vs := range numbers {
			steps := len(way(exactly(exact(va)), exactly(exact(vs)))) - 1
			for _, k := range windows {
				holdRoom(t, va, vs, k, wordsRoom(steps, k))
			}
		}
	}
}
