package draw_test

import (
	"math"
	"math/big"
	"math/rand"
	"slices"
	"testing"

	"lapwing/draw"
)

// edges are first numbers, and what each of them is modulo 65536, by numbers that were written out.
var edges = []struct{ n, told int }{
	{0, 0}, {1, 1}, {7, 7}, {127, 127}, {128, 128}, {255, 255}, {256, 256}, {32767, 32767}, {32768, 32768}, {65534, 65534}, {65535, 65535},
	{65536, 0}, {65537, 1}, {131071, 65535}, {131072, 0}, {131073, 1}, {100000, 34464},
	{-1, 65535}, {-2, 65534}, {-128, 65408}, {-32768, 32768}, {-32769, 32767}, {-65534, 2}, {-65535, 1}, {-65536, 0}, {-65537, 65535}, {-131072, 0}, {-131073, 65535}, {-100000, 31072},
	{math.MaxInt32, 65535}, {math.MinInt32, 0}, {1 << 32, 0}, {1<<32 + 1, 1}, {-1 << 32, 0}, {-1<<32 - 1, 65535},
	{math.MaxInt - 65536, 65535}, {math.MaxInt - 65535, 0}, {math.MaxInt - 1, 65534}, {math.MaxInt, 65535},
	{math.MinInt + 65536, 0}, {math.MinInt + 65535, 65535}, {math.MinInt + 1, 1}, {math.MinInt, 0},
}

// rows are seeds, and the numbers that come of them without first ones, by numbers that were written out.
var rows = []struct {
	seed    uint64
	numbers []int
}{
	{0, []int{5125, 6664, 39670, 26294, 25141, 36756, 5184, 23329}},
	{1, []int{27735, 33384, 42490, 25091, 52130, 32801, 36302, 4287}},
	{2, []int{50345, 60104, 45311, 23888, 13583, 28846, 1884, 50781}},
	{5125, []int{13490, 39891, 10825, 22482, 63644, 18059, 36522, 15430}},
	{math.MaxUint32, []int{2121, 45881, 33303, 64987, 20258, 45158, 15017, 56772}},
	{1 << 32, []int{24730, 7064, 36123, 63784, 47248, 41203, 46136, 37730}},
	{math.MaxInt64, []int{15283, 12713, 4082, 60264, 30920, 7943, 6834, 9603}},
	{1 << 63, []int{37893, 39432, 6902, 59062, 57909, 3988, 37952, 56097}},
	{math.MaxUint64 - 1, []int{25441, 18761, 34029, 28699, 36698, 44666, 8484, 61413}},
	{math.MaxUint64, []int{48051, 45481, 36850, 27496, 63688, 40711, 39602, 42371}},
}

func holdNext(t *testing.T, s *draw.Source, want ...int) {
	t.Helper()
	for i, w := range want {
		if got := s.Next(); got != w {
			t.Errorf("Next() = %d, want %d, number %d of these", got, w, i)
		}
	}
}

func holdLeft(t *testing.T, s *draw.Source, want int) {
	t.Helper()
	if got := s.Left(); got != want {
		t.Errorf("Left() = %d, want %d", got, want)
	}
}

// holdFirst: does it tell these, while one less is left each time, and then none?
func holdFirst(t *testing.T, s *draw.Source, want ...int) {
	t.Helper()
	for i, w := range want {
		holdLeft(t, s, len(want)-i)
		holdNext(t, s, w)
	}
	holdLeft(t, s, 0)
}

// words is a source as the chapter's words have it, in numbers without bounds.
type words struct {
	first []int
	told  int
	x     *big.Int
}

func wordsOf(seed uint64, first []int) *words {
	return &words{first: first, x: new(big.Int).SetUint64(seed)}
}

func (w *words) next() int {
	if w.told < len(w.first) {
		w.told++
		n := big.NewInt(int64(w.first[w.told-1]))
		return int(n.Mod(n, big.NewInt(65536)).Int64()) // Mod tells 0 to 65535, also of numbers below 0
	}
	w.x.Mul(w.x, big.NewInt(6364136223846793005))
	w.x.Add(w.x, big.NewInt(1442695040888963407))
	w.x.Mod(w.x, new(big.Int).Lsh(big.NewInt(1), 64))
	return int(new(big.Int).Div(w.x, big.NewInt(1<<48)).Int64())
}

func (w *words) left() int { return len(w.first) - w.told }

// The chapter's example.
func TestExample(t *testing.T) {
	holdNext(t, draw.New(0, 7, -1), 7, 65535, 5125)
}

// What is said of a nil source: 0, always.
func TestNil(t *testing.T) {
	var s *draw.Source
	for range 5 {
		holdNext(t, s, 0)
		holdLeft(t, s, 0)
		holdNext(t, s, 0, 0, 0)
		holdLeft(t, s, 0)
	}
}

// A source that New didn't make is one of New(0).
func TestOfNobody(t *testing.T) {
	var s draw.Source
	holdLeft(t, &s, 0)
	holdNext(t, &s, 5125, 6664, 39670)
}

// P11.1: a source without first numbers begins with the seed's, however none are handed in.
func TestNoFirst(t *testing.T) {
	some := []int{1, 2, 3}
	for _, r := range rows {
		for _, s := range []*draw.Source{
			draw.New(r.seed), draw.New(r.seed, nil...), draw.New(r.seed, []int{}...), draw.New(r.seed, some[:0]...), draw.New(r.seed, some[3:]...),
		} {
			holdLeft(t, s, 0)
			holdNext(t, s, r.numbers...)
			holdLeft(t, s, 0)
		}
	}
}

// P11.1: a first number is told modulo 65536, and doesn't change what comes behind it.
func TestOneFirst(t *testing.T) {
	for _, e := range edges {
		for _, r := range rows {
			s := draw.New(r.seed, e.n)
			holdFirst(t, s, e.told)
			holdNext(t, s, r.numbers...)
			holdLeft(t, s, 0)
		}
	}
}

// P11.1 and P11.2: many first numbers, each told once, in order, the same ones several times; Left ahead of, between and behind them.
func TestManyFirst(t *testing.T) {
	var first, told []int
	for range 3 {
		for _, e := range edges {
			first, told = append(first, e.n, e.n), append(told, e.told, e.told)
		}
	}
	for _, r := range rows {
		for _, many := range []int{2, 3, 4, 7, 8, 9, len(first) - 1, len(first)} {
			s := draw.New(r.seed, first[:many]...)
			holdFirst(t, s, told[:many]...)
			holdNext(t, s, r.numbers...)
			holdLeft(t, s, 0)
		}
	}
}

// P11.1: more first numbers than there are reference numbers.
func TestVeryManyFirst(t *testing.T) {
	const many = 70000
	first := make([]int, many)
	for i := range first {
		first[i] = i - 1000
	}
	s := draw.New(0, first...)
	for i := range many {
		holdLeft(t, s, many-i)
		holdNext(t, s, (i+64536)%65536)
	}
	holdLeft(t, s, 0)
	holdNext(t, s, 5125, 6664)
}

// P11.1: far behind the last of first, with numbers from the least to the greatest; none of them comes to be one of first.
func TestFarBehind(t *testing.T) {
	s := draw.New(0, 7, -1)
	holdNext(t, s, 7, 65535)
	at := map[int]int{0: 5125, 999: 3206, 9999: 733, 53232: 0, 76399: 65535, 99999: 17121}
	for i := range 100000 {
		got := s.Next()
		if want, ok := at[i]; ok && got != want {
			t.Errorf("number %d behind the first ones is %d, want %d", i, got, want)
		}
		if got < 0 || got > 65535 {
			t.Fatalf("number %d behind the first ones is %d", i, got)
		}
	}
	holdLeft(t, s, 0)
}

// P11.2: Left changes nothing, however often it is called.
func TestLeft(t *testing.T) {
	s := draw.New(1, 3, 3, 65536)
	for i, want := range []int{3, 3, 0, 27735, 33384} {
		for range 4 {
			holdLeft(t, s, max(0, 3-i))
		}
		holdNext(t, s, want)
	}
	holdLeft(t, s, 0)
}

// P11.2: what the caller does with its list, ahead of the first Next and between two, makes no difference.
func TestListChanged(t *testing.T) {
	for told := range 5 {
		list := []int{10, -20, 70000, 40}
		want := []int{10, 65516, 4464, 40, 5125}
		s := draw.New(0, list...)
		holdNext(t, s, want[:told]...)
		for i := range list {
			list[i] = 999
		}
		list = append(list[:1], 5, 6, 7, 8, 9)
		clear(list)
		holdLeft(t, s, max(0, 4-told))
		holdNext(t, s, want[told:]...)
		holdLeft(t, s, 0)
	}
}

// Rule 4: a list that was handed in is as it was, also what lies behind its length, which is neither told nor counted.
func TestListLeftAlone(t *testing.T) {
	memory := []int{1, -1, 65536, 4, 5, 6, 7, 8}
	was := slices.Clone(memory)
	for length := range len(memory) + 1 {
		s := draw.New(0, memory[:length]...)
		holdLeft(t, s, length)
		holdNext(t, s, []int{1, 65535, 0, 4, 5, 6, 7, 8}[:length]...)
		holdLeft(t, s, 0)
		holdNext(t, s, 5125, 6664)
		if !slices.Equal(memory, was) {
			t.Fatalf("with %d numbers handed in, the memory became %d", length, memory)
		}
	}
}

// What lies behind the length is changed later, and isn't told either.
func TestMemoryChanged(t *testing.T) {
	memory := []int{1, 2, 3, 4}
	s := draw.New(0, memory[:2]...)
	_ = append(memory[:2], 77, 78)
	holdFirst(t, s, 1, 2)
	holdNext(t, s, 5125)
}

// P2: two sources of one list and of one seed, side by side, and one that is made while others are at work.
func TestSideBySide(t *testing.T) {
	list := []int{11, 12, 13}
	a, b := draw.New(0, list...), draw.New(0, list...)
	holdNext(t, a, 11, 12)
	holdLeft(t, b, 3)
	holdNext(t, b, 11)
	holdLeft(t, a, 1)
	holdNext(t, a, 13, 5125, 6664)
	holdLeft(t, b, 2)
	c, d := draw.New(1), draw.New(0)
	holdNext(t, b, 12, 13, 5125)
	holdNext(t, a, 39670)
	holdNext(t, c, 27735)
	holdNext(t, d, 5125)
	holdNext(t, b, 6664)
	holdNext(t, c, 33384)
	holdNext(t, d, 6664)
	holdNext(t, a, 26294)
}

// P2: overlapping pieces of one memory are told by each source as its own.
func TestPiecesOfOneList(t *testing.T) {
	memory := []int{1, 2, 3, 4, 5}
	a, b := draw.New(0, memory[:3]...), draw.New(0, memory[1:]...)
	holdNext(t, a, 1, 2)
	holdNext(t, b, 2, 3)
	holdFirst(t, a, 3)
	holdFirst(t, b, 4, 5)
	holdNext(t, a, 5125)
	holdNext(t, b, 5125)
}

// Rule 7: the same calls answer the same.
func TestAgain(t *testing.T) {
	for _, r := range rows {
		for range 3 {
			holdNext(t, draw.New(r.seed, -1, 1), append([]int{65535, 1}, r.numbers...)...)
		}
	}
}

// P11.1 and P11.2: long rows of calls against the chapter's words.
func TestWords(t *testing.T) {
	chance := rand.New(rand.NewSource(11))
	for range 500 {
		seed, first := chance.Uint64(), make([]int, chance.Intn(20))
		for i := range first {
			first[i] = int(chance.Uint64()) >> chance.Intn(64)
		}
		s, w := draw.New(seed, first...), wordsOf(seed, slices.Clone(first))
		for range 60 {
			holdLeft(t, s, w.left())
			holdNext(t, s, w.next())
		}
	}
}
