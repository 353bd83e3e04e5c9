package queue_test

import (
	"math"
	"math/rand"
	"slices"
	"strconv"
	"strings"
	"testing"

	"lapwing/api"
	"lapwing/queue"
)

// The limits, by numbers that were written out.
const (
	maxInfo  = 260
	maxQueue = 256
)

// far are numbers that no queue has so many payloads of, some of which look good if they are cut to fewer bits.
var far = []int{
	-1, -2, -256, -257, math.MinInt32, -1 << 32, -1<<32 + 1, math.MinInt + 1, math.MinInt,
	257, 65536, 65537, math.MaxInt32, 1 << 32, 1<<32 + 1, 1<<62 + 1, math.MaxInt - 1, math.MaxInt,
}

// goodTexts and longTexts are of lengths at the edge and next to it, empty, far out, of bytes and of runes that are several bytes.
var (
	goodTexts = []string{
		"", "a", "\x00", "\xff\xfe", "ein Blätterteig", "a\nb",
		text(255), text(256), text(257), text(259), text(260), strings.Repeat("ä", 130), strings.Repeat("\x00", 260), strings.Repeat("\xff", 260),
	}
	longTexts = []string{
		text(261), text(262), text(300), text(512), text(516), text(65536), text(65537), text(1 << 20),
		strings.Repeat("ä", 131), strings.Repeat("ä", 260), strings.Repeat("\x00", 261), strings.Repeat("\xff", 261),
	}
)

func text(length int) string { return strings.Repeat("x", length) }

// payloads: so many, each of them another, counted from the first number on.
func payloads(first, many int) []string {
	var out []string
	for i := range many {
		out = append(out, strconv.Itoa(first+i))
	}
	return out
}

// filled: a queue with these payloads, the first ones of which are sent.
func filled(t *testing.T, most, sent int, all ...string) *queue.Queue {
	t.Helper()
	q := queue.New(most)
	for _, s := range all {
		holdPush(t, q, s, api.OK)
	}
	holdTake(t, q, all[:sent]...)
	return q
}

func holdPush(t *testing.T, q *queue.Queue, s string, want api.Errno) {
	t.Helper()
	if got := q.Push(s); got != want {
		t.Errorf("Push(%.20q of %d) = %v, want %v", s, len(s), got, want)
	}
}

func holdTake(t *testing.T, q *queue.Queue, want ...string) {
	t.Helper()
	for _, w := range want {
		if got, ok := q.Take(); got != w || !ok {
			t.Errorf("Take() = %q, %t, want %q, true", got, ok, w)
		}
	}
}

func holdNoTake(t *testing.T, q *queue.Queue) {
	t.Helper()
	if got, ok := q.Take(); got != "" || ok {
		t.Errorf("Take() = %q, %t, want nothing, false", got, ok)
	}
}

func holdDone(t *testing.T, q *queue.Queue, n int, want bool) {
	t.Helper()
	if got := q.Done(n); got != want {
		t.Errorf("Done(%d) = %t, want %t", n, got, want)
	}
}

func holdBack(t *testing.T, q *queue.Queue, n int, want bool) {
	t.Helper()
	if got := q.Back(n); got != want {
		t.Errorf("Back(%d) = %t, want %t", n, got, want)
	}
}

func holdClear(t *testing.T, q *queue.Queue, want int) {
	t.Helper()
	if got := q.Clear(); got != want {
		t.Errorf("Clear() = %d, want %d", got, want)
	}
}

// holdHas: has it all these, the first ones of which are sent, and no others?
func holdHas(t *testing.T, q *queue.Queue, sent int, all ...string) {
	t.Helper()
	if got := q.Sent(); got != sent {
		t.Errorf("Sent() = %d, want %d", got, sent)
	}
	if got, left := q.Left(), len(all)-sent; got != left {
		t.Errorf("Left() = %d, want %d", got, left)
	}
	if got := q.List(); !slices.Equal(got, all) {
		t.Errorf("List() = %q, want %q", got, all)
	}
}

// The chapter's examples.
func TestExamples(t *testing.T) {
	q := queue.New(3)
	holdPush(t, q, "a", api.OK)
	holdPush(t, q, "b", api.OK)
	holdPush(t, q, "c", api.OK)
	holdTake(t, q, "a", "b")
	holdDone(t, q, 1, true)
	holdBack(t, q, 0, true)
	holdTake(t, q, "b")
}

// What is said of a nil queue, with good arguments and with wrong ones.
func TestNil(t *testing.T) {
	var q *queue.Queue
	for _, s := range slices.Concat(goodTexts, longTexts) {
		holdPush(t, q, s, api.ErrNil)
	}
	for _, n := range append([]int{0, 1, 2}, far...) {
		holdDone(t, q, n, false)
		holdBack(t, q, n, false)
	}
	holdNoTake(t, q)
	holdClear(t, q, 0)
	holdHas(t, q, 0)
}

// P10.1 to P10.3: each call of an empty queue.
func TestNew(t *testing.T) {
	for _, most := range append([]int{0, 1, 2, 7, 256}, far...) {
		q := queue.New(most)
		holdHas(t, q, 0)
		holdNoTake(t, q)
		holdDone(t, q, 1, false)
		holdBack(t, q, 1, false)
		holdDone(t, q, 0, true)
		holdBack(t, q, 0, true)
		holdClear(t, q, 0)
		holdHas(t, q, 0)
		holdPush(t, q, "a", api.OK)
		holdHas(t, q, 0, "a")
	}
}

// A queue that New didn't make is one of New(0).
func TestOfNobody(t *testing.T) {
	var q queue.Queue
	holdHas(t, &q, 0)
	holdNoTake(t, &q)
	holdPush(t, &q, "a", api.OK)
	holdPush(t, &q, "b", api.ErrFull)
	holdTake(t, &q, "a")
	holdHas(t, &q, 1, "a")
}

// P10.1: how many a queue takes: 1 of a most below 1, 256 of one above.
func TestMost(t *testing.T) {
	for _, x := range []struct{ most, takes int }{
		{math.MinInt, 1}, {math.MinInt + 1, 1}, {-1 << 32, 1}, {-1<<32 + 5, 1}, {-256, 1}, {-2, 1}, {-1, 1}, {0, 1}, {1, 1},
		{2, 2}, {3, 3}, {127, 127}, {128, 128}, {254, 254}, {255, 255}, {256, 256},
		{257, 256}, {258, 256}, {512, 256}, {65536, 256}, {1 << 32, 256}, {1<<32 + 5, 256}, {math.MaxInt - 1, 256}, {math.MaxInt, 256},
	} {
		all := payloads(0, x.takes)
		q := filled(t, x.most, 0, all...)
		for range 3 {
			holdPush(t, q, "more", api.ErrFull)
			holdPush(t, q, "", api.ErrFull)
			holdHas(t, q, 0, all...)
		}
		holdTake(t, q, all...)
		holdNoTake(t, q)
	}
}

// P10.1: payloads of 0 to 260 octets are kept as they are; octets count, not runes.
func TestPush(t *testing.T) {
	q := queue.New(maxQueue)
	for i, s := range goodTexts {
		holdPush(t, q, s, api.OK)
		holdHas(t, q, 0, goodTexts[:i+1]...)
	}
	holdTake(t, q, goodTexts...)
	holdHas(t, q, len(goodTexts), goodTexts...)
	for length := range maxInfo + 1 {
		holdTake(t, filled(t, 1, 0, text(length)), text(length))
	}
}

// P10.1: a longer one is refused and changes nothing, while the queue is empty, has room, and is full.
func TestPushLong(t *testing.T) {
	for _, all := range [][]string{nil, {"a"}, {"a", "b"}, {"a", "b", "c"}} {
		for sent := range len(all) + 1 {
			q := filled(t, 3, sent, all...)
			for _, s := range longTexts {
				holdPush(t, q, s, api.ErrLong)
				holdHas(t, q, sent, all...)
			}
			holdTake(t, q, all[sent:]...)
			holdNoTake(t, q)
		}
	}
}

// P10.1: ErrLong comes ahead of ErrFull, also in the greatest queue and in the least.
func TestPushOrder(t *testing.T) {
	for _, x := range []struct{ most, takes int }{{math.MinInt, 1}, {0, 1}, {1, 1}, {2, 2}, {256, 256}, {math.MaxInt, 256}} {
		q := filled(t, x.most, 0, payloads(0, x.takes)...)
		for _, s := range longTexts {
			holdPush(t, q, s, api.ErrLong)
		}
		for _, s := range goodTexts {
			holdPush(t, q, s, api.ErrFull)
		}
	}
}

// P10.1: the same payload may be in it several times, and is last each time.
func TestPushSame(t *testing.T) {
	q := filled(t, 9, 0, "a", "a", "b", "", "", "a")
	holdTake(t, q, "a")
	holdHas(t, q, 1, "a", "a", "b", "", "", "a")
	holdDone(t, q, 1, true)
	holdHas(t, q, 0, "a", "b", "", "", "a")
	holdTake(t, q, "a", "b", "", "")
	holdPush(t, q, "", api.OK)
	holdTake(t, q, "a", "")
	holdNoTake(t, q)
}

// P10.1: what is sent counts as long as it isn't done: there is room again behind Done, as much as was done, and none behind Take or Back.
func TestRoom(t *testing.T) {
	for _, most := range []int{1, 2, 3, 10, 255, 256} {
		all := payloads(0, most)
		for _, done := range []int{0, 1, most / 2, most - 1, most} {
			q := filled(t, most, 0, all...)
			holdTake(t, q, all[:done]...)
			holdPush(t, q, "more", api.ErrFull)
			holdBack(t, q, 0, true)
			holdPush(t, q, "more", api.ErrFull)
			holdTake(t, q, all...)
			holdPush(t, q, "more", api.ErrFull)
			holdBack(t, q, done, true)
			holdPush(t, q, "more", api.ErrFull)
			holdDone(t, q, done, true)
			for _, s := range payloads(1000, done) {
				holdPush(t, q, s, api.OK)
			}
			holdPush(t, q, "more", api.ErrFull)
			holdHas(t, q, 0, append(all[done:], payloads(1000, done)...)...)
		}
	}
}

// P10.2: Take with none, one and several left, and when all are sent; a payload that comes behind that is the next.
func TestTake(t *testing.T) {
	for many := range 8 {
		all := payloads(0, many)
		q := filled(t, 9, 0, all...)
		for i := range all {
			holdHas(t, q, i, all...)
			holdTake(t, q, all[i])
		}
		for range 3 {
			holdHas(t, q, many, all...)
			holdNoTake(t, q)
		}
		holdPush(t, q, "next", api.OK)
		holdHas(t, q, many, append(all, "next")...)
		holdTake(t, q, "next")
		holdNoTake(t, q)
		holdHas(t, q, many+1, append(all, "next")...)
	}
}

// P10.2: an empty payload is one: beside it stands true.
func TestTakeEmpty(t *testing.T) {
	q := filled(t, 3, 0, "", "a", "")
	holdTake(t, q, "", "a", "")
	holdNoTake(t, q)
	holdHas(t, q, 3, "", "a", "")
}

// eachFilled: queues of none to six payloads, of which none to all are sent, made anew for each number.
func eachFilled(t *testing.T, numbers []int, each func(q *queue.Queue, n, sent int, all []string)) {
	t.Helper()
	for many := range 7 {
		all := payloads(0, many)
		for sent := range many + 1 {
			for _, n := range numbers {
				each(filled(t, 6, sent, all...), n, sent, all)
			}
		}
	}
}

// P10.2: Done and Back of whatever isn't from 0 to the number of those that are sent change nothing.
func TestWrongNumbers(t *testing.T) {
	for _, call := range []func(*testing.T, *queue.Queue, int, bool){holdDone, holdBack} {
		eachFilled(t, append([]int{1, 2, 3, 4, 5, 6, 7, 8, 255, 256}, far...), func(q *queue.Queue, n, sent int, all []string) {
			if 0 <= n && n <= sent {
				return
			}
			call(t, q, n, false)
			holdHas(t, q, sent, all...)
			holdTake(t, q, all[sent:]...)
			holdNoTake(t, q)
		})
	}
}

// P10.2: one more than are sent is too many, also if there are as many payloads, and at the edge of the greatest queue.
func TestOneMore(t *testing.T) {
	all := payloads(0, maxQueue)
	for _, sent := range []int{0, 1, 2, 127, 128, 254, 255, 256} {
		q := filled(t, maxQueue, sent, all...)
		holdDone(t, q, sent+1, false)
		holdBack(t, q, sent+1, false)
		holdHas(t, q, sent, all...)
		holdBack(t, q, sent, true)
		holdHas(t, q, sent, all...)
		holdDone(t, q, sent, true)
		holdHas(t, q, 0, all[sent:]...)
		holdDone(t, q, 1, false)
		holdBack(t, q, 1, false)
	}
}

// P10.2: Done of 0 to all that are sent, while some are sent and some aren't, and while all are: the rest goes on as it was.
func TestDone(t *testing.T) {
	eachFilled(t, []int{0, 1, 2, 3, 4, 5, 6}, func(q *queue.Queue, n, sent int, all []string) {
		if n > sent {
			return
		}
		holdDone(t, q, n, true)
		holdHas(t, q, sent-n, all[n:]...)
		holdDone(t, q, sent-n+1, false)
		holdBack(t, q, sent-n+1, false)
		holdTake(t, q, all[sent:]...)
		holdNoTake(t, q)
		holdHas(t, q, len(all)-n, all[n:]...)
		holdBack(t, q, 0, true)
		holdTake(t, q, all[n:]...)
		holdDone(t, q, len(all)-n, true)
		holdHas(t, q, 0)
	})
}

// P10.2: Done bit by bit, with payloads that come between: none is lost, doubled or out of order.
func TestDoneInTurns(t *testing.T) {
	q, all := queue.New(4), payloads(0, 1000)
	pushed, taken, done := 0, 0, 0
	for done < len(all) {
		for pushed < len(all) && pushed-done < 4 {
			holdPush(t, q, all[pushed], api.OK)
			pushed++
		}
		holdTake(t, q, all[taken:min(taken+3, pushed)]...)
		taken = min(taken+3, pushed)
		n := min(1+done%3, taken-done)
		holdDone(t, q, n, true)
		done += n
		holdHas(t, q, taken-done, all[done:pushed]...)
	}
	holdHas(t, q, 0)
}

// P10.2: Back to 0 to all that are sent; Take goes on from there, in order, and Back may be further back again.
func TestBack(t *testing.T) {
	eachFilled(t, []int{0, 1, 2, 3, 4, 5, 6}, func(q *queue.Queue, n, sent int, all []string) {
		if n > sent {
			return
		}
		holdBack(t, q, n, true)
		holdHas(t, q, n, all...)
		holdDone(t, q, n+1, false)
		holdBack(t, q, n+1, false)
		holdTake(t, q, all[n:]...)
		holdNoTake(t, q)
		holdHas(t, q, len(all), all...)
		holdBack(t, q, n, true)
		holdBack(t, q, n/2, true)
		holdTake(t, q, all[n/2:]...)
		holdHas(t, q, len(all), all...)
	})
}

// P10.2: Done counts only what counts as sent behind Back, and a payload that comes behind Back is the last one still.
func TestBackAndDone(t *testing.T) {
	q := filled(t, 6, 4, "a", "b", "c", "d", "e")
	holdBack(t, q, 2, true)
	holdPush(t, q, "f", api.OK)
	holdDone(t, q, 3, false)
	holdHas(t, q, 2, "a", "b", "c", "d", "e", "f")
	holdDone(t, q, 1, true)
	holdHas(t, q, 1, "b", "c", "d", "e", "f")
	holdTake(t, q, "c")
	holdBack(t, q, 0, true)
	holdDone(t, q, 1, false)
	holdTake(t, q, "b", "c", "d", "e", "f")
	holdNoTake(t, q)
}

// P10.3: Clear of none to six payloads, whatever is sent; behind it the queue is as New made it.
func TestClear(t *testing.T) {
	eachFilled(t, []int{0}, func(q *queue.Queue, _, sent int, all []string) {
		holdClear(t, q, len(all))
		holdHas(t, q, 0)
		holdClear(t, q, 0)
		holdNoTake(t, q)
		holdDone(t, q, 1, false)
		holdBack(t, q, 1, false)
		holdDone(t, q, 0, true)
		holdBack(t, q, 0, true)
		again := payloads(100, 6)
		for i, s := range again {
			holdPush(t, q, s, api.OK)
			holdHas(t, q, 0, again[:i+1]...)
		}
		holdPush(t, q, "more", api.ErrFull)
		holdTake(t, q, again...)
		holdNoTake(t, q)
	})
}

// P10.3: Clear counts those that are there still, not those that are done, and those that are back.
func TestClearCounts(t *testing.T) {
	q := filled(t, 6, 4, "a", "b", "c", "d", "e")
	holdDone(t, q, 2, true)
	holdBack(t, q, 1, true)
	holdClear(t, q, 3)
	holdHas(t, q, 0)
	full := filled(t, math.MaxInt, 128, payloads(0, maxQueue)...)
	holdClear(t, full, 256)
	holdClear(t, full, 0)
}

// P10.3: to ask changes nothing.
func TestAsking(t *testing.T) {
	q := filled(t, 3, 1, "a", "b", "c")
	for range 10 {
		holdHas(t, q, 1, "a", "b", "c")
	}
	holdTake(t, q, "b", "c")
	holdNoTake(t, q)
}

// P2: two queues side by side have nothing to do with one another.
func TestTwoQueues(t *testing.T) {
	a, b := queue.New(2), queue.New(3)
	holdPush(t, a, "a", api.OK)
	holdHas(t, b, 0)
	holdPush(t, b, "x", api.OK)
	holdPush(t, b, "y", api.OK)
	holdPush(t, a, "b", api.OK)
	holdPush(t, a, "c", api.ErrFull)
	holdPush(t, b, "z", api.OK)
	holdTake(t, a, "a")
	holdTake(t, b, "x", "y")
	holdHas(t, a, 1, "a", "b")
	holdDone(t, b, 2, true)
	holdDone(t, a, 2, false)
	holdBack(t, a, 0, true)
	holdHas(t, b, 0, "z")
	holdClear(t, b, 1)
	holdHas(t, a, 0, "a", "b")
	holdTake(t, a, "a", "b")
	holdNoTake(t, b)
}

// Rule 4: a list that List answered may be changed, and added to, by its caller: neither the queue nor another list tells it.
func TestListIsItsCallers(t *testing.T) {
	all := []string{"a", "b", "c"}
	for done := range 3 {
		q := filled(t, 8, 2, all...)
		holdDone(t, q, done, true)
		first, second := q.List(), q.List()
		holdPush(t, q, "d", api.OK)
		first = append(first, "x")
		for i := range first {
			first[i] = "changed"
		}
		whole := second[:cap(second)]
		for i := range whole {
			whole[i] = "turned"
		}
		for _, s := range first {
			if s != "changed" {
				t.Errorf("the first list has %q", s)
			}
		}
		left := append(slices.Clone(all[done:]), "d")
		holdHas(t, q, 2-done, left...)
		holdTake(t, q, "c", "d")
		holdBack(t, q, 0, true)
		holdTake(t, q, left...)
	}
}

// Rule 4: a list tells what there was when it was asked for, whatever comes behind that.
func TestListStays(t *testing.T) {
	q := filled(t, 4, 3, "a", "b", "c", "d")
	list := q.List()
	hold := func() {
		t.Helper()
		if !slices.Equal(list, []string{"a", "b", "c", "d"}) {
			t.Errorf("the list is %q", list)
		}
	}
	holdDone(t, q, 2, true)
	hold()
	holdPush(t, q, "e", api.OK)
	holdPush(t, q, "f", api.OK)
	hold()
	holdClear(t, q, 4)
	holdPush(t, q, "g", api.OK)
	hold()
}

// Rule 4: nothing of what was done lies behind the length of a list.
func TestListHidesNothing(t *testing.T) {
	q := filled(t, 6, 3, "a", "b", "c", "d", "e")
	holdDone(t, q, 3, true)
	list := q.List()
	if behind := strings.Join(list[len(list):cap(list)], ""); behind != "" {
		t.Errorf("behind the list lies %q", behind)
	}
}

// words is a queue by the chapter's words: payloads, each of which is sent or isn't.
type words struct {
	most int
	all  []payload
}

type payload struct {
	s    string
	sent bool
}

func (w *words) push(s string) api.Errno {
	switch {
	case len(s) > maxInfo:
		return api.ErrLong
	case len(w.all) == w.most:
		return api.ErrFull
	}
	w.all = append(w.all, payload{s: s})
	return api.OK
}

func (w *words) take() (string, bool) {
	for i, p := range w.all {
		if !p.sent {
			w.all[i].sent = true
			return p.s, true
		}
	}
	return "", false
}

func (w *words) sent() int {
	n := 0
	for _, p := range w.all {
		if p.sent {
			n++
		}
	}
	return n
}

func (w *words) done(n int) bool {
	if n < 0 || n > w.sent() {
		return false
	}
	w.all = slices.Clone(w.all[n:])
	return true
}

func (w *words) back(n int) bool {
	if n < 0 || n > w.sent() {
		return false
	}
	for i := range w.all {
		w.all[i].sent = i < n
	}
	return true
}

func (w *words) list() []string {
	var out []string
	for _, p := range w.all {
		out = append(out, p.s)
	}
	return out
}

// P10.1 to P10.3: long rows of calls, held against the chapter's words behind each.
func TestRows(t *testing.T) {
	random := rand.New(rand.NewSource(31))
	for range 80 {
		w := words{most: 1 + random.Intn(12)}
		q := queue.New(w.most)
		for step := range 300 {
			s, n := strconv.Itoa(step), random.Intn(w.most+3)-1
			switch random.Intn(20) {
			case 0, 1, 2:
				holdDone(t, q, n, w.done(n))
			case 3, 4:
				holdBack(t, q, n, w.back(n))
			case 5:
				s = text(maxInfo + random.Intn(2))
				holdPush(t, q, s, w.push(s))
			case 6:
				if random.Intn(5) == 0 {
					holdClear(t, q, len(w.all))
					w.all = nil
				}
			case 7, 8, 9, 10, 11, 12:
				if want, ok := w.take(); ok {
					holdTake(t, q, want)
				} else {
					holdNoTake(t, q)
				}
			default:
				holdPush(t, q, s, w.push(s))
			}
			holdHas(t, q, w.sent(), w.list()...)
		}
	}
}
