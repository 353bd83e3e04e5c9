package clock_test

import (
	"math"
	"math/rand"
	"slices"
	"testing"

	"lapwing/api"
	"lapwing/clock"
)

// The limits, by numbers that were written out.
const (
	maxTime   = int64(9007199254740992)
	maxPeriod = 1048576
)

// nows and periods are at their edges and next to them, between, far out, and such as look good if they are cut to fewer bits.
var (
	goodNows = []int64{0, 1, 2, 5, 4095, 1<<31 - 1, 1 << 31, 1<<32 + 1, 1<<52 + 1, maxTime - 1, maxTime}
	badNows  = []int64{
		-1, -2, -5, -1 << 31, -1<<32 + 5, -maxTime, math.MinInt64 + 1, math.MinInt64,
		maxTime + 1, maxTime + 2, 1<<54 + 5, 1<<62 + 5, math.MaxInt64 - 1, math.MaxInt64,
	}
	goodPeriods = []int{1, 2, 10, 255, 256, 65536, maxPeriod - 1, maxPeriod}
	badPeriods  = []int{
		0, -1, -2, -10, -maxPeriod, math.MinInt32, -1<<32 + 7, math.MinInt + 1, math.MinInt,
		maxPeriod + 1, maxPeriod + 2, 1<<21 + 7, math.MaxInt32, 1<<32 + 7, 1<<62 + 7, math.MaxInt - 1, math.MaxInt,
	}
)

func key(owner, timer int) clock.Key { return clock.Key{Owner: owner, Timer: timer} }

func keys(l ...clock.Key) []clock.Key { return l }

// started: a clock with timers that run till then.
func started(t *testing.T, ends map[clock.Key]int64) *clock.Clock {
	t.Helper()
	c := clock.New()
	for k, end := range ends {
		holdStart(t, c, k, end-1, 1, api.OK)
	}
	return c
}

func holdStart(t *testing.T, c *clock.Clock, k clock.Key, now int64, period int, want api.Errno) {
	t.Helper()
	if got := c.Start(k, now, period); got != want {
		t.Errorf("Start(%v, %d, %d) = %v, want %v", k, now, period, got, want)
	}
}

func holdStop(t *testing.T, c *clock.Clock, k clock.Key, want bool) {
	t.Helper()
	if got := c.Stop(k); got != want {
		t.Errorf("Stop(%v) = %t, want %t", k, got, want)
	}
}

func holdDrop(t *testing.T, c *clock.Clock, owner, want int) {
	t.Helper()
	if got := c.Drop(owner); got != want {
		t.Errorf("Drop(%d) = %d, want %d", owner, got, want)
	}
}

func holdRuns(t *testing.T, c *clock.Clock, k clock.Key, want int64) {
	t.Helper()
	if got, ok := c.Runs(k); got != want || !ok {
		t.Errorf("Runs(%v) = %d, %t, want %d, true", k, got, ok, want)
	}
}

func holdStill(t *testing.T, c *clock.Clock, l ...clock.Key) {
	t.Helper()
	for _, k := range l {
		if got, ok := c.Runs(k); got != 0 || ok {
			t.Errorf("Runs(%v) = %d, %t, want 0, false", k, got, ok)
		}
	}
}

func holdNext(t *testing.T, c *clock.Clock, want int64) {
	t.Helper()
	if got, ok := c.Next(); got != want || !ok {
		t.Errorf("Next() = %d, %t, want %d, true", got, ok, want)
	}
}

func holdNoNext(t *testing.T, c *clock.Clock) {
	t.Helper()
	if got, ok := c.Next(); got != 0 || ok {
		t.Errorf("Next() = %d, %t, want 0, false", got, ok)
	}
}

func holdDue(t *testing.T, c *clock.Clock, now int64, want ...clock.Key) {
	t.Helper()
	if got := c.Due(now); !slices.Equal(got, want) {
		t.Errorf("Due(%d) = %v, want %v", now, got, want)
	}
}

// The chapter's examples.
func TestExamples(t *testing.T) {
	c := clock.New()
	holdStart(t, c, key(1, 0), 5, 10, api.OK)
	holdStart(t, c, key(2, 0), 5, 3, api.OK)
	holdNext(t, c, 8)
	holdDue(t, c, 15, key(2, 0), key(1, 0))
}

// What is said of a nil clock, with good arguments and with wrong ones.
func TestNil(t *testing.T) {
	var c *clock.Clock
	for _, now := range slices.Concat(goodNows, badNows) {
		for _, period := range slices.Concat(goodPeriods, badPeriods) {
			holdStart(t, c, key(1, 0), now, period, api.ErrNil)
		}
		holdDue(t, c, now)
	}
	for _, n := range []int{0, 1, -1, math.MinInt, math.MaxInt} {
		holdStop(t, c, key(n, n), false)
		holdDrop(t, c, n, 0)
		holdStill(t, c, key(n, n))
	}
	holdNoNext(t, c)
}

// P9.1, P9.2: each call of a clock without timers, of New and of nobody.
func TestNew(t *testing.T) {
	for _, c := range []*clock.Clock{clock.New(), {}} {
		holdNoNext(t, c)
		holdStill(t, c, key(0, 0), key(1, 2))
		holdStop(t, c, key(0, 0), false)
		holdDrop(t, c, 0, 0)
		for _, now := range slices.Concat(goodNows, badNows) {
			holdDue(t, c, now)
		}
		holdStart(t, c, key(0, 0), 0, 1, api.OK)
		holdRuns(t, c, key(0, 0), 1)
	}
}

// P9.1: all good times with all good periods. The greatest end is no number that a float tells exactly.
func TestStart(t *testing.T) {
	for _, now := range goodNows {
		for _, period := range goodPeriods {
			c, end := clock.New(), now+int64(period)
			holdStart(t, c, key(1, 2), now, period, api.OK)
			holdRuns(t, c, key(1, 2), end)
			holdNext(t, c, end)
			holdDue(t, c, end-1)
			holdDue(t, c, end, key(1, 2))
			holdStill(t, c, key(1, 2))
		}
	}
}

// P9.1: the ends at the edges, by numbers that were written out.
func TestStartEnds(t *testing.T) {
	for _, x := range []struct {
		now    int64
		period int
		end    int64
	}{
		{0, 1, 1}, {0, 1048576, 1048576}, {5, 10, 15}, {9007199254740991, 1, 9007199254740992},
		{9007199254740992, 1, 9007199254740993}, {9007199254740992, 1048575, 9007199255789567}, {9007199254740992, 1048576, 9007199255789568},
	} {
		c := clock.New()
		holdStart(t, c, key(0, 200), x.now, x.period, api.OK)
		holdRuns(t, c, key(0, 200), x.end)
		holdNext(t, c, x.end)
	}
}

// P9.1: a wrong time with whatever period, and a wrong period with whatever time, start nothing.
func TestStartWrong(t *testing.T) {
	c := clock.New()
	eachWrong(func(now int64, period int) {
		holdStart(t, c, key(1, 2), now, period, api.ErrArg)
		holdStill(t, c, key(1, 2))
		holdNoNext(t, c)
	})
	holdDrop(t, c, 1, 0)
	holdDue(t, c, math.MaxInt64)
}

func eachWrong(each func(now int64, period int)) {
	for _, now := range badNows {
		for _, period := range slices.Concat(goodPeriods, badPeriods) {
			each(now, period)
		}
	}
	for _, now := range goodNows {
		for _, period := range badPeriods {
			each(now, period)
		}
	}
}

// P9.1: a start that is refused while the timer runs leaves it, and those beside it, as they are.
func TestStartRefusedWhileItRuns(t *testing.T) {
	c := started(t, map[clock.Key]int64{key(1, 2): 20, key(1, 3): 30})
	eachWrong(func(now int64, period int) {
		holdStart(t, c, key(1, 2), now, period, api.ErrArg)
		holdRuns(t, c, key(1, 2), 20)
		holdRuns(t, c, key(1, 3), 30)
		holdNext(t, c, 20)
	})
	holdDue(t, c, 19)
	holdDue(t, c, 20, key(1, 2))
	holdDue(t, c, 30, key(1, 3))
}

// P9.1: a timer that is started anew while it runs, with a later end, an earlier one, and the same.
func TestStartAnew(t *testing.T) {
	for _, end := range []int64{1, 7, 19, 20, 21, 40, 1000} {
		c := started(t, map[clock.Key]int64{key(1, 2): 20, key(1, 3): 30})
		holdStart(t, c, key(1, 2), end-1, 1, api.OK)
		holdRuns(t, c, key(1, 2), end)
		holdRuns(t, c, key(1, 3), 30)
		holdNext(t, c, min(end, 30))
		holdStop(t, c, key(1, 3), true)
		holdDue(t, c, end-1)
		holdDue(t, c, end, key(1, 2))
		holdDue(t, c, math.MaxInt64)
	}
}

// P9.1: a timer that was started anew several times is one timer.
func TestStartAnewIsOne(t *testing.T) {
	restarted := func() *clock.Clock {
		c := clock.New()
		for _, period := range []int{10, 30, 20, 20, 5, 40} {
			holdStart(t, c, key(4, 4), 100, period, api.OK)
		}
		holdRuns(t, c, key(4, 4), 140)
		return c
	}
	holdDrop(t, restarted(), 4, 1)
	holdDue(t, restarted(), 1000, key(4, 4))
	c := restarted()
	holdStop(t, c, key(4, 4), true)
	holdStop(t, c, key(4, 4), false)
	holdNoNext(t, c)
}

// P9.1: a start's time needn't be later than the ones before.
func TestStartBackwards(t *testing.T) {
	c := clock.New()
	holdStart(t, c, key(1, 1), maxTime, maxPeriod, api.OK)
	holdDue(t, c, maxTime)
	holdStart(t, c, key(1, 2), 0, 1, api.OK)
	holdNext(t, c, 1)
	holdDue(t, c, 1, key(1, 2))
	holdNext(t, c, maxTime+maxPeriod)
}

// P9.1: Stop of a timer that runs, twice, and of such as don't, though their Owner, their Timer, or both the other way round are those of one that does.
func TestStop(t *testing.T) {
	c := started(t, map[clock.Key]int64{key(1, 2): 20, key(1, 3): 30, key(3, 2): 40})
	for _, k := range keys(key(2, 1), key(1, 1), key(2, 2), key(3, 3), key(0, 0), key(-1, -2), key(math.MinInt, math.MaxInt)) {
		holdStop(t, c, k, false)
	}
	holdStop(t, c, key(1, 2), true)
	holdStill(t, c, key(1, 2))
	holdStop(t, c, key(1, 2), false)
	holdRuns(t, c, key(1, 3), 30)
	holdRuns(t, c, key(3, 2), 40)
	holdNext(t, c, 30)
	holdDue(t, c, 100, key(1, 3), key(3, 2))
	holdStop(t, c, key(1, 3), false)
}

// P9.1: a timer that was stopped may be started again.
func TestStopAndStart(t *testing.T) {
	c := started(t, map[clock.Key]int64{key(1, 2): 20})
	holdStop(t, c, key(1, 2), true)
	holdNoNext(t, c)
	holdStart(t, c, key(1, 2), 50, 5, api.OK)
	holdRuns(t, c, key(1, 2), 55)
	holdDue(t, c, 54)
	holdDue(t, c, 55, key(1, 2))
}

// P9.1: Drop of an Owner with none, with one and with several timers, beside timers of others with the same Timers, twice each.
func TestDrop(t *testing.T) {
	owners := []int{math.MinInt, -1, 0, 1, 64, 126, math.MaxInt}
	for several, dropped := range owners {
		c := clock.New()
		for _, owner := range owners {
			holdStart(t, c, key(owner, 200), 0, 10, api.OK)
		}
		for timer := 201; timer < 240; timer++ {
			holdStart(t, c, key(dropped, timer), 0, timer, api.OK)
		}
		for _, none := range []int{2, -2, 200, 201, 1<<32 + 1, math.MinInt + 1, math.MaxInt - 1} {
			holdDrop(t, c, none, 0)
		}
		holdDrop(t, c, dropped, 40)
		holdDrop(t, c, dropped, 0)
		holdStill(t, c, key(dropped, 200), key(dropped, 201), key(dropped, 239))
		for _, owner := range slices.Concat(owners[:several], owners[several+1:]) {
			holdRuns(t, c, key(owner, 200), 10)
			holdDrop(t, c, owner, 1)
			holdStill(t, c, key(owner, 200))
		}
		holdNoNext(t, c)
	}
}

// P9.1: an Owner whose timers were dropped may have some again.
func TestDropAndStart(t *testing.T) {
	c := started(t, map[clock.Key]int64{key(7, 1): 20, key(7, 2): 30, key(8, 1): 40})
	holdDrop(t, c, 7, 2)
	holdNext(t, c, 40)
	holdStart(t, c, key(7, 2), 0, 5, api.OK)
	holdStill(t, c, key(7, 1))
	holdDue(t, c, 100, key(7, 2), key(8, 1))
	holdDrop(t, c, 7, 0)
	holdDrop(t, c, 8, 0)
}

// P9.2: Next with one timer and several, as they are started and stopped; to ask changes nothing.
func TestNext(t *testing.T) {
	c := clock.New()
	for _, x := range []struct {
		timer       int
		start, next int64
	}{{1, 50, 50}, {2, 60, 50}, {3, 40, 40}, {4, 40, 40}, {5, 41, 40}, {6, 1, 1}, {1, 70, 1}} {
		holdStart(t, c, key(0, x.timer), x.start-1, 1, api.OK)
		holdNext(t, c, x.next)
		holdNext(t, c, x.next)
	}
	for _, x := range []struct {
		timer int
		next  int64
	}{{6, 40}, {3, 40}, {4, 41}, {2, 41}, {5, 70}} {
		holdStop(t, c, key(0, x.timer), true)
		holdNext(t, c, x.next)
	}
	holdStop(t, c, key(0, 1), true)
	holdNoNext(t, c)
}

// P9.2: Due below, at and above a timer's end; what isn't over yet runs on.
func TestDue(t *testing.T) {
	for _, x := range []struct {
		now  int64
		over []clock.Key
		next int64
	}{
		{math.MinInt64, nil, 1}, {math.MinInt64 + 1, nil, 1}, {-1, nil, 1}, {0, nil, 1},
		{1, keys(key(9, 9)), 20}, {19, keys(key(9, 9)), 20},
		{20, keys(key(9, 9), key(1, 2)), 21}, {21, keys(key(9, 9), key(1, 2), key(0, 2)), maxTime + maxPeriod},
		{maxTime, keys(key(9, 9), key(1, 2), key(0, 2)), maxTime + maxPeriod},
		{maxTime + maxPeriod - 1, keys(key(9, 9), key(1, 2), key(0, 2)), maxTime + maxPeriod},
	} {
		c := started(t, map[clock.Key]int64{key(1, 2): 20, key(0, 2): 21, key(9, 9): 1})
		holdStart(t, c, key(-4, 0), maxTime, maxPeriod, api.OK)
		holdDue(t, c, x.now, x.over...)
		holdNext(t, c, x.next)
		holdStill(t, c, x.over...)
		holdRuns(t, c, key(-4, 0), maxTime+maxPeriod)
	}
}

// P9.2: at the last end that there is, at the greatest time, and between, nothing is left.
func TestDueAll(t *testing.T) {
	for _, now := range []int64{maxTime + maxPeriod, maxTime + maxPeriod + 1, math.MaxInt64 - 1, math.MaxInt64} {
		c := started(t, map[clock.Key]int64{key(1, 2): 20, key(0, 2): 21})
		holdStart(t, c, key(-4, 0), maxTime, maxPeriod, api.OK)
		holdDue(t, c, now, key(1, 2), key(0, 2), key(-4, 0))
		holdNoNext(t, c)
	}
}

// P9.2: timers that were over are not over again, and don't run, till they are started anew.
func TestDueOnce(t *testing.T) {
	c := started(t, map[clock.Key]int64{key(1, 2): 20, key(1, 3): 20, key(2, 2): 30})
	holdDue(t, c, 20, key(1, 2), key(1, 3))
	holdDue(t, c, 20)
	holdDue(t, c, 29)
	holdStill(t, c, key(1, 2), key(1, 3))
	holdStop(t, c, key(1, 2), false)
	holdDrop(t, c, 1, 0)
	holdStart(t, c, key(1, 3), 20, 20, api.OK)
	holdDue(t, c, 39, key(2, 2))
	holdDue(t, c, math.MaxInt64, key(1, 3))
	holdDue(t, c, math.MaxInt64)
	holdNoNext(t, c)
}

// ordered: timers in order: the end first, then Owner, then Timer, also below 0.
var ordered = []struct {
	k   clock.Key
	end int64
}{
	{key(math.MaxInt, math.MaxInt), 1},
	{key(math.MinInt, math.MinInt), 5},
	{key(math.MinInt, math.MaxInt), 5},
	{key(-2, 0), 5},
	{key(-1, math.MinInt), 5},
	{key(-1, -10), 5},
	{key(-1, -9), 5},
	{key(-1, 0), 5},
	{key(-1, 9), 5},
	{key(-1, 10), 5},
	{key(0, -1), 5},
	{key(0, 0), 5},
	{key(0, 1), 5},
	{key(1, -3), 5},
	{key(1, 9), 5},
	{key(2, 0), 5},
	{key(2, 1), 5},
	{key(9, 200), 5},
	{key(10, 199), 5},
	{key(1<<32+1, 0), 5},
	{key(math.MaxInt, math.MinInt), 5},
	{key(math.MaxInt, -1), 5},
	{key(math.MaxInt, math.MaxInt-1), 5},
	{key(math.MinInt, -5), 6},
	{key(0, 2), 10},
	{key(3, 3), 1<<32 + 1},
}

// P9.2: timers are told in order, however they were started; there and back, and shuffled.
func TestDueOrder(t *testing.T) {
	random := rand.New(rand.NewSource(9))
	var want []clock.Key
	for _, x := range ordered {
		want = append(want, x.k)
	}
	for turn := range 200 {
		c, places := clock.New(), random.Perm(len(ordered))
		if turn < 2 {
			slices.Sort(places)
		}
		if turn == 1 {
			slices.Reverse(places)
		}
		for _, i := range places {
			holdStart(t, c, ordered[i].k, ordered[i].end-1, 1, api.OK)
		}
		holdDue(t, c, math.MaxInt64, want...)
	}
}

// P9.2: the order is by the end alone where Owners or Timers would have it otherwise, and by the Owner where Timers would.
func TestDueOrderOfTwo(t *testing.T) {
	for _, x := range []struct{ first, then [3]int }{
		{[3]int{7, 5, 5}, [3]int{8, 1, 1}}, {[3]int{7, 1, 5}, [3]int{8, 1, 1}}, {[3]int{7, 5, 1}, [3]int{8, 1, 1}},
		{[3]int{7, 1, 5}, [3]int{7, 2, 1}}, {[3]int{7, 1, 1}, [3]int{7, 1, 2}}, {[3]int{7, -1, 1}, [3]int{7, 0, 0}},
		{[3]int{7, 0, -2}, [3]int{7, 0, -1}}, {[3]int{7, math.MinInt, 0}, [3]int{7, math.MaxInt, 0}}, {[3]int{7, 0, math.MinInt}, [3]int{7, 0, math.MaxInt}},
	} {
		first, then := key(x.first[1], x.first[2]), key(x.then[1], x.then[2])
		for range 20 { // a map of two is gone through either way
			c := started(t, map[clock.Key]int64{first: int64(x.first[0]), then: int64(x.then[0])})
			holdDue(t, c, 8, first, then)
		}
	}
}

// P2: two clocks side by side have nothing to do with one another.
func TestTwoClocks(t *testing.T) {
	a, b := clock.New(), clock.New()
	holdStart(t, a, key(1, 2), 0, 10, api.OK)
	holdStill(t, b, key(1, 2))
	holdNoNext(t, b)
	holdStart(t, b, key(1, 2), 0, 20, api.OK)
	holdStart(t, b, key(1, 3), 0, 5, api.OK)
	holdRuns(t, a, key(1, 2), 10)
	holdNext(t, a, 10)
	holdStop(t, a, key(1, 3), false)
	holdDue(t, a, 100, key(1, 2))
	holdRuns(t, b, key(1, 2), 20)
	holdStart(t, a, key(1, 2), 0, 10, api.OK)
	holdDrop(t, a, 1, 1)
	holdDrop(t, b, 1, 2)
}

// Rule 4: a list that Due answered may be changed, and added to, by its caller: neither the clock nor another list tells it.
func TestDueListIsItsCallers(t *testing.T) {
	c := clock.New()
	start := func(end int64) []clock.Key {
		var l []clock.Key
		for timer := range 5 {
			l = append(l, key(1, timer))
			holdStart(t, c, key(1, timer), end-1, 1, api.OK)
		}
		return l
	}
	want := start(10)
	holdStart(t, c, key(2, 0), 90, 10, api.OK)
	first := c.Due(10)
	start(20)
	first = append(first, key(3, 3))
	for i := range first {
		first[i] = key(2, 0)
	}
	second := c.Due(20)
	if !slices.Equal(second, want) {
		t.Errorf("Due(20) = %v, want %v", second, want)
	}
	for i := range second {
		second[i] = key(4, 4)
	}
	for _, k := range first {
		if k != key(2, 0) {
			t.Errorf("the first list has %v", k)
		}
	}
	holdRuns(t, c, key(2, 0), 100)
	holdDue(t, c, 1000, key(2, 0))
}

// words is a clock by the chapter's words: a row of timers, which is put in order each time that one is started.
type words []running

type running struct {
	k   clock.Key
	end int64
}

func (w *words) take(such func(running) bool) []clock.Key {
	var taken []clock.Key
	var left words
	for _, r := range *w {
		if such(r) {
			taken = append(taken, r.k)
		} else {
			left = append(left, r)
		}
	}
	*w = left
	return taken
}

func (w *words) start(k clock.Key, end int64) {
	w.take(func(r running) bool { return r.k == k })
	place := 0
	for place < len(*w) && before((*w)[place], running{k, end}) {
		place++
	}
	*w = slices.Insert(*w, place, running{k, end})
}

func before(a, b running) bool {
	if a.end != b.end {
		return a.end < b.end
	}
	if a.k.Owner != b.k.Owner {
		return a.k.Owner < b.k.Owner
	}
	return a.k.Timer < b.k.Timer
}

// holdWords: does the clock run the same timers?
func holdWords(t *testing.T, c *clock.Clock, w words, all []clock.Key) {
	t.Helper()
	left := slices.Clone(all)
	for _, r := range w {
		holdRuns(t, c, r.k, r.end)
		left = slices.DeleteFunc(left, func(k clock.Key) bool { return k == r.k })
	}
	holdStill(t, c, left...)
	if len(w) == 0 {
		holdNoNext(t, c)
		return
	}
	holdNext(t, c, w[0].end)
}

// P9.1, P9.2: long rows of calls, held against the chapter's words behind each.
func TestRows(t *testing.T) {
	random := rand.New(rand.NewSource(27))
	var all []clock.Key
	for owner := -2; owner <= 2; owner++ {
		for timer := -1; timer <= 2; timer++ {
			all = append(all, key(owner, timer))
		}
	}
	for range 60 {
		c, w, now := clock.New(), words{}, int64(random.Intn(20))
		for range 200 {
			k := all[random.Intn(len(all))]
			switch random.Intn(8) {
			case 0:
				holdStop(t, c, k, len(w.take(func(r running) bool { return r.k == k })) == 1)
			case 1:
				holdDrop(t, c, k.Owner, len(w.take(func(r running) bool { return r.k.Owner == k.Owner })))
			case 2:
				now += int64(random.Intn(6))
				holdDue(t, c, now, w.take(func(r running) bool { return r.end <= now })...)
			case 3:
				holdStart(t, c, k, now, -random.Intn(2), api.ErrArg)
			default:
				period := 1 + random.Intn(12)
				holdStart(t, c, k, now, period, api.OK)
				w.start(k, now+int64(period))
			}
			holdWords(t, c, w, all)
		}
	}
}

// P9.2: many timers are told in order, too.
func TestMany(t *testing.T) {
	random := rand.New(rand.NewSource(5))
	c, want := clock.New(), []running{}
	for _, n := range random.Perm(20000) {
		r := running{key(n%211-100, n/211), int64(1 + random.Intn(50))}
		holdStart(t, c, r.k, 0, int(r.end), api.OK)
		want = append(want, r)
	}
	slices.SortFunc(want, func(a, b running) int {
		if before(a, b) {
			return -1
		}
		return 1
	})
	for now := int64(0); now <= 51; now++ {
		var over []clock.Key
		for len(want) > 0 && want[0].end == now {
			over, want = append(over, want[0].k), want[1:]
		}
		if got := c.Due(now); !slices.Equal(got, over) {
			t.Fatalf("Due(%d) tells %d timers out of order, or not those %d that are over", now, len(got), len(over))
		}
	}
	holdNoNext(t, c)
}
