package flow_test

import (
	"math"
	"math/rand"
	"strconv"
	"strings"
	"testing"

	"lapwing/api"
	"lapwing/flow"
)

// The limits, by numbers that were written out.
const (
	modulus   = 128
	maxInfo   = 260
	maxWindow = 127
	maxQueue  = 256
)

// windows are what a k counts as: a window from 1 to 127, below as 1, above as 127.
var windows = []struct{ k, window int }{
	{1, 1}, {2, 2}, {3, 3}, {7, 7}, {64, 64}, {125, 125}, {126, 126}, {127, 127},
	{128, 127}, {129, 127}, {130, 127}, {255, 127}, {256, 127}, {257, 127}, {65536, 127}, {65541, 127}, {math.MaxInt32, 127},
	{1 << 32, 127}, {1<<32 + 5, 127}, {math.MaxInt - 127, 127}, {math.MaxInt - 1, 127}, {math.MaxInt, 127},
	{0, 1}, {-1, 1}, {-2, 1}, {-5, 1}, {-121, 1}, {-127, 1}, {-128, 1}, {-129, 1}, {-65531, 1}, {math.MinInt32, 1},
	{-1 << 32, 1}, {-1<<32 + 5, 1}, {math.MinInt + 5, 1}, {math.MinInt + 1, 1}, {math.MinInt, 1},
}

// multiples of 128, up to the last ones from which on to the least and the greatest int no other one is.
var multiples = []int{
	0, 128, -128, 256, -256, 384, -384, 65536, -65536, 1 << 31, -1 << 31, 1 << 32, -1 << 32, 1 << 62, -1 << 62,
	math.MaxInt - 127, math.MaxInt - 255, math.MinInt, math.MinInt + 128,
}

// spelt: the ints that are the same modulo 128.
func spelt(n int) []int {
	var out []int
	for _, m := range multiples {
		out = append(out, m+n%modulus)
	}
	return out
}

// payloads: so many, each of them another, counted from the first number on.
func payloads(first, many int) []string {
	var out []string
	for i := range many {
		out = append(out, strconv.Itoa(first+i))
	}
	return out
}

// moved: a flow with that V(A), from where on so many payloads are sent, and so many more aren't; they are counted from 0 on.
func moved(t *testing.T, k, va, sent, left int) *flow.Flow {
	t.Helper()
	f := flow.New(k, maxQueue)
	for n := range va {
		holdPush(t, f, api.OK, "gone")
		holdTake(t, f, n, "gone")
		holdAck(t, f, n+1, 1)
	}
	holdPush(t, f, api.OK, payloads(0, sent+left)...)
	holdTake(t, f, va, payloads(0, sent)...)
	holdView(t, f, flow.View{VS: (va + sent) % modulus, VA: va, Sent: sent, Left: left})
	return f
}

// marked: the same, with all set, and that V(R).
func marked(t *testing.T, k, va, sent, left, vr int) *flow.Flow {
	t.Helper()
	f := moved(t, k, va, sent, left)
	for n := range vr {
		holdCome(t, f, flow.Next, n)
	}
	holdCome(t, f, flow.Wrong, vr+1)
	f.SetPeer(true)
	holdOwn(t, f, true, true)
	holdView(t, f, flow.View{VS: (va + sent) % modulus, VA: va, VR: vr, Peer: true, Own: true, Refused: true, Sent: sent, Left: left})
	return f
}

func holdView(t *testing.T, f *flow.Flow, want flow.View) {
	t.Helper()
	if got := f.View(); got != want {
		t.Errorf("View() = %+v, want %+v", got, want)
	}
}

func holdPush(t *testing.T, f *flow.Flow, want api.Errno, texts ...string) {
	t.Helper()
	for _, s := range texts {
		if got := f.Push(s); got != want {
			t.Errorf("Push(%.20q of %d) = %v, want %v", s, len(s), got, want)
		}
	}
}

// holdTake: does it tell these, with numbers from ns on?
func holdTake(t *testing.T, f *flow.Flow, ns int, want ...string) {
	t.Helper()
	for i, w := range want {
		if n, s, ok := f.Take(); n != (ns+i)%modulus || s != w || !ok {
			t.Errorf("Take() = %d, %q, %t, want %d, %q, true", n, s, ok, (ns+i)%modulus, w)
		}
	}
}

func holdNoTake(t *testing.T, f *flow.Flow) {
	t.Helper()
	was := f.View()
	if n, s, ok := f.Take(); n != 0 || s != "" || ok {
		t.Errorf("Take() = %d, %q, %t, want 0, nothing, false", n, s, ok)
	}
	holdView(t, f, was)
}

func holdAck(t *testing.T, f *flow.Flow, nr, want int) {
	t.Helper()
	if got, e := f.Ack(nr); got != want || e != api.OK {
		t.Errorf("Ack(%d) = %d, %v, want %d, %v", nr, got, e, want, api.OK)
	}
}

func holdNoAck(t *testing.T, f *flow.Flow, nr int, want api.Errno) {
	t.Helper()
	was := f.View()
	if got, e := f.Ack(nr); got != 0 || e != want {
		t.Errorf("Ack(%d) = %d, %v, want 0, %v", nr, got, e, want)
	}
	holdView(t, f, was)
}

func holdCome(t *testing.T, f *flow.Flow, want flow.Got, numbers ...int) {
	t.Helper()
	for _, ns := range numbers {
		if got := f.Come(ns); got != want {
			t.Errorf("Come(%d) = %d, want %d", ns, got, want)
		}
	}
}

func holdOwn(t *testing.T, f *flow.Flow, busy, want bool) {
	t.Helper()
	if got := f.SetOwn(busy); got != want {
		t.Errorf("SetOwn(%t) = %t, want %t", busy, got, want)
	}
	if got := f.View().Own; f != nil && got != busy {
		t.Errorf("Own is %t behind SetOwn(%t)", got, busy)
	}
}

func holdClear(t *testing.T, f *flow.Flow, want int) {
	t.Helper()
	if got := f.Clear(); got != want {
		t.Errorf("Clear() = %d, want %d", got, want)
	}
}

// The chapter's example.
func TestExample(t *testing.T) {
	f := flow.New(1, 9)
	holdPush(t, f, api.OK, "a", "b")
	holdTake(t, f, 0, "a")
	holdNoTake(t, f)
	holdAck(t, f, 1, 1)
	holdTake(t, f, 1, "b")
	f.Back()
	holdTake(t, f, 1, "b")
}

// What a number may be, as the chapter's functions have it.
func TestGot(t *testing.T) {
	for want, got := range []flow.Got{flow.Next, flow.Wrong, flow.Again, flow.Busy} {
		if int(got) != want {
			t.Errorf("it is %d, want %d", int(got), want)
		}
	}
}

// What is said of a nil flow, with good arguments and with wrong ones.
func TestNil(t *testing.T) {
	var f *flow.Flow
	for range 2 {
		holdView(t, f, flow.View{})
		holdPush(t, f, api.ErrNil, "", "a", strings.Repeat("x", 260), strings.Repeat("x", 261), strings.Repeat("x", 65537))
		holdNoTake(t, f)
		for n := range modulus + 2 {
			for _, n := range spelt(n - 1) {
				holdNoAck(t, f, n, api.ErrNil)
				holdCome(t, f, flow.Busy, n)
			}
		}
		f.Back()
		for _, busy := range []bool{true, true, false, false} {
			f.SetPeer(busy)
			holdOwn(t, f, busy, false)
		}
		f.Reset()
		holdClear(t, f, 0)
		holdView(t, f, flow.View{})
	}
}

// A flow that New didn't make is one of New(0, 0).
func TestOfNobody(t *testing.T) {
	var f flow.Flow
	holdView(t, &f, flow.View{})
	holdNoTake(t, &f)
	holdPush(t, &f, api.OK, "a")
	holdPush(t, &f, api.ErrFull, "b")
	holdTake(t, &f, 0, "a")
	holdAck(t, &f, 1, 1)
	holdCome(t, &f, flow.Next, 0)
	holdView(t, &f, flow.View{VS: 1, VA: 1, VR: 1})
}

// P13.1: all numbers are 0 and nothing is set, whatever k and most are; each call of a new flow.
func TestNew(t *testing.T) {
	for _, k := range windows {
		for _, most := range []int{math.MinInt, -1, 0, 1, 9, 256, 257, math.MaxInt} {
			f := flow.New(k.k, most)
			holdView(t, f, flow.View{})
			holdNoTake(t, f)
			holdAck(t, f, 0, 0)
			holdNoAck(t, f, 1, api.ErrArg)
			holdNoAck(t, f, 127, api.ErrArg)
			f.Back()
			f.SetPeer(false)
			holdOwn(t, f, false, false)
			holdClear(t, f, 0)
			f.Reset()
			holdView(t, f, flow.View{})
			holdPush(t, f, api.OK, "a")
			holdView(t, f, flow.View{Left: 1})
			holdTake(t, f, 0, "a")
			holdView(t, f, flow.View{VS: 1, Sent: 1})
			holdCome(t, f, flow.Next, 0)
			holdView(t, f, flow.View{VS: 1, VR: 1, Sent: 1})
		}
	}
}

// P13.1: View tells each thing alone, with the others as they were, and changes nothing.
func TestView(t *testing.T) {
	f := flow.New(5, 9)
	want := flow.View{}
	for _, step := range []struct {
		do     func()
		change func()
	}{
		{func() { f.Push("a") }, func() { want.Left = 1 }},
		{func() { f.Push("b") }, func() { want.Left = 2 }},
		{func() { f.Push("c") }, func() { want.Left = 3 }},
		{func() { f.Take() }, func() { want.VS, want.Sent, want.Left = 1, 1, 2 }},
		{func() { f.Take() }, func() { want.VS, want.Sent, want.Left = 2, 2, 1 }},
		{func() { f.Ack(1) }, func() { want.VA, want.Sent = 1, 1 }},
		{func() { f.Come(0) }, func() { want.VR = 1 }},
		{func() { f.Come(7) }, func() { want.Refused = true }},
		{func() { f.SetPeer(true) }, func() { want.Peer = true }},
		{func() { f.SetOwn(true) }, func() { want.Own = true }},
		{func() { f.SetPeer(false) }, func() { want.Peer = false }},
		{func() { f.SetOwn(false) }, func() { want.Own = false }},
		{func() { f.Come(1) }, func() { want.VR, want.Refused = 2, false }},
		{func() { f.Back() }, func() { want.VS, want.Sent, want.Left = 1, 0, 2 }},
	} {
		step.do()
		step.change()
		holdView(t, f, want)
		holdView(t, f, want)
	}
}

// P13.1 and P13.2: how many are told one behind the other for a k; then no more, till they are answered.
func TestWindow(t *testing.T) {
	for _, x := range windows {
		f := flow.New(x.k, maxQueue)
		holdPush(t, f, api.OK, payloads(0, maxQueue)...)
		holdTake(t, f, 0, payloads(0, x.window)...)
		for range 3 {
			holdNoTake(t, f)
		}
		holdView(t, f, flow.View{VS: x.window, Sent: x.window, Left: maxQueue - x.window})
		holdAck(t, f, 1, 1)
		holdTake(t, f, x.window, strconv.Itoa(x.window))
		holdNoTake(t, f)
		holdAck(t, f, x.window+1, x.window)
		holdTake(t, f, x.window+1, payloads(x.window+1, x.window)...)
		holdNoTake(t, f)
	}
}

// P13.2: a window that is used up gives room again for as many as are answered, and for all behind Back, wherever V(A) is.
func TestWindowUsedUp(t *testing.T) {
	for _, window := range []int{1, 2, 7, 126, 127} {
		for _, va := range []int{0, 1, 64, 121, 126, 127} {
			for _, answered := range []int{0, 1, window / 2, window - 1, window} {
				f := moved(t, window, va, window, window)
				holdNoTake(t, f)
				holdAck(t, f, va+answered, answered)
				holdTake(t, f, va+window, payloads(window, answered)...)
				holdNoTake(t, f)
				f.Back()
				holdTake(t, f, va+answered, payloads(answered, window)...)
				holdNoTake(t, f)
			}
		}
	}
}

// P13.1: how many payloads a flow takes is what layer 10's New makes of most: 1 below 1, 256 above.
func TestMost(t *testing.T) {
	for _, x := range []struct{ most, takes int }{
		{math.MinInt, 1}, {math.MinInt + 5, 1}, {-256, 1}, {-1, 1}, {0, 1}, {1, 1}, {2, 2}, {9, 9}, {127, 127}, {128, 128}, {255, 255}, {256, 256},
		{257, 256}, {512, 256}, {65541, 256}, {1<<32 + 5, 256}, {math.MaxInt, 256},
	} {
		f := flow.New(3, x.most)
		holdPush(t, f, api.OK, payloads(0, x.takes)...)
		holdPush(t, f, api.ErrFull, "more", "", strings.Repeat("x", 260))
		holdView(t, f, flow.View{Left: x.takes})
		sent := min(x.takes, 3)
		holdTake(t, f, 0, payloads(0, sent)...)
		holdPush(t, f, api.ErrFull, "more")
		holdView(t, f, flow.View{VS: sent, Sent: sent, Left: x.takes - sent})
		holdAck(t, f, 1, 1)
		holdPush(t, f, api.OK, "more")
		holdPush(t, f, api.ErrFull, "more")
	}
}

// k and most are told apart.
func TestWindowIsNotMost(t *testing.T) {
	f := flow.New(3, 5)
	holdPush(t, f, api.OK, payloads(0, 5)...)
	holdPush(t, f, api.ErrFull, "more")
	holdTake(t, f, 0, payloads(0, 3)...)
	holdNoTake(t, f)
	f = flow.New(5, 3)
	holdPush(t, f, api.OK, payloads(0, 3)...)
	holdPush(t, f, api.ErrFull, "more")
	holdTake(t, f, 0, payloads(0, 3)...)
	holdNoTake(t, f)
}

// P13.1: payloads of 0 to 260 octets go through as they are; longer ones are ErrLong, ahead of ErrFull, and change nothing.
func TestPush(t *testing.T) {
	f := flow.New(127, 5)
	long := []string{
		strings.Repeat("x", 261), strings.Repeat("x", 516), strings.Repeat("x", 65537), strings.Repeat("x", 1<<20),
		strings.Repeat("ä", 131), strings.Repeat("\x00", 261), strings.Repeat("\xff", 261),
	}
	good := []string{"", "\x00\xff\xfe", strings.Repeat("x", 260), strings.Repeat("ä", 130), strings.Repeat("\x00", 260)}
	for i, s := range good {
		holdPush(t, f, api.ErrLong, long...)
		holdView(t, f, flow.View{Left: i})
		holdPush(t, f, api.OK, s)
		holdView(t, f, flow.View{Left: i + 1})
	}
	holdPush(t, f, api.ErrLong, long...)
	holdPush(t, f, api.ErrFull, good...)
	holdView(t, f, flow.View{Left: 5})
	holdTake(t, f, 0, good...)
	holdNoTake(t, f)
}

// P13.1: Push changes neither numbers nor marks, and takes what comes while something is set, too.
func TestPushMarked(t *testing.T) {
	f := marked(t, 7, 126, 3, 1, 5)
	want := f.View()
	holdPush(t, f, api.OK, "a", "b")
	holdPush(t, f, api.ErrLong, strings.Repeat("x", maxInfo+1))
	want.Left = 3
	holdView(t, f, want)
	f.SetPeer(false)
	holdTake(t, f, 1, "3", "a", "b")
}

// P13.2: false of a flow without payloads, and of one with all of them sent, till another one comes.
func TestTakeNothingLeft(t *testing.T) {
	f := flow.New(7, 9)
	for n := range 5 {
		holdNoTake(t, f)
		holdNoTake(t, f)
		holdPush(t, f, api.OK, "a")
		holdTake(t, f, n, "a")
	}
	holdNoTake(t, f)
	holdAck(t, f, 5, 5)
	holdNoTake(t, f)
	holdPush(t, f, api.OK, "b")
	holdTake(t, f, 5, "b")
	holdNoTake(t, f)
}

// P13.2: an empty payload is one: beside it stand its number and true.
func TestTakeEmpty(t *testing.T) {
	f := flow.New(7, 9)
	holdPush(t, f, api.OK, "", "a", "")
	holdTake(t, f, 0, "", "a", "")
	holdNoTake(t, f)
	holdView(t, f, flow.View{VS: 3, Sent: 3})
}

// P13.2: with Peer set false, with none, some and all sent, and with room or without; as before when it isn't set any more. Own and Refused don't matter.
func TestTakePeer(t *testing.T) {
	for sent := range 5 {
		f := moved(t, 4, 126, sent, 6)
		f.SetPeer(true)
		for range 3 {
			holdNoTake(t, f)
		}
		holdOwn(t, f, true, true)
		holdNoTake(t, f)
		f.SetPeer(false)
		holdTake(t, f, 126+sent, payloads(sent, 4-sent)...)
		holdNoTake(t, f)
	}
	f := marked(t, 7, 0, 0, 2, 0)
	f.SetPeer(false)
	holdTake(t, f, 0, "0", "1")
	holdView(t, f, flow.View{VS: 2, Own: true, Refused: true, Sent: 2})
}

// P13.2: V(S) goes from 127 on to 0, several times round, with windows that are small and great.
func TestTakeRound(t *testing.T) {
	for _, window := range []int{1, 2, 3, 64, 127} {
		f := flow.New(window, maxQueue)
		for n := range 3 * modulus {
			holdPush(t, f, api.OK, strconv.Itoa(n))
			holdTake(t, f, n, strconv.Itoa(n))
			if n+1 >= window {
				holdNoTake(t, f)
				holdAck(t, f, (n+2-window)%modulus, 1)
			}
			sent := min(n+1, window-1)
			holdView(t, f, flow.View{VS: (n + 1) % modulus, VA: (n + 1 - sent) % modulus, Sent: sent})
		}
	}
}

// P13.3: each number from 0 to 127, with V(A) here and there and with none to 127 sent: ErrArg but for those on the way from V(A) to V(S), also where that goes through 127 to 0.
func TestAck(t *testing.T) {
	for _, va := range []int{0, 1, 2, 63, 64, 100, 121, 125, 126, 127} {
		for _, sent := range []int{0, 1, 2, 3, 7, 64, 126, 127} {
			refuses := moved(t, 127, va, sent, 2)
			for way := range modulus {
				nr := (va + way) % modulus
				if way > sent {
					holdNoAck(t, refuses, nr, api.ErrArg)
					continue
				}
				f := moved(t, 127, va, sent, 2)
				holdAck(t, f, nr, way)
				holdView(t, f, flow.View{VS: (va + sent) % modulus, VA: nr, Sent: sent - way, Left: 2})
				f.Back()
				holdTake(t, f, nr, payloads(way, min(sent+2-way, maxWindow))...)
			}
		}
	}
}

// P13.3: numbers that are the same modulo 128 count as the same, also below 0, and up to the least and the greatest int.
func TestAckSpelt(t *testing.T) {
	for _, va := range []int{0, 3, 64, 120, 125, 127} {
		for _, sent := range []int{0, 1, 5} {
			refuses := moved(t, 7, va, sent, 1)
			for way := range modulus {
				for _, nr := range spelt(va + way) {
					if way > sent {
						holdNoAck(t, refuses, nr, api.ErrArg)
						continue
					}
					f := moved(t, 7, va, sent, 1)
					holdAck(t, f, nr, way)
					holdView(t, f, flow.View{VS: (va + sent) % modulus, VA: (va + way) % modulus, Sent: sent - way, Left: 1})
				}
			}
		}
	}
}

// P13.3: the least and the greatest int are 0 and 127 modulo 128.
func TestAckFarthest(t *testing.T) {
	f := moved(t, 7, 125, 2, 3)
	holdNoAck(t, f, math.MinInt, api.ErrArg)
	holdNoAck(t, f, math.MinInt+1, api.ErrArg)
	holdNoAck(t, f, math.MaxInt-3, api.ErrArg)
	holdAck(t, f, math.MaxInt, 2)
	holdTake(t, f, 127, "2", "3")
	holdAck(t, f, math.MinInt, 1)
	holdAck(t, f, math.MinInt+1, 1)
	holdNoAck(t, f, math.MaxInt, api.ErrArg)
	holdView(t, f, flow.View{VS: 1, VA: 1, Left: 1})
}

// P13.3: V(A) again and again answers nothing; V(S) answers all; behind that V(S) alone is let be.
func TestAckEnds(t *testing.T) {
	for _, va := range []int{0, 60, 122, 127} {
		f := moved(t, 7, va, 6, 0)
		for range 3 {
			holdAck(t, f, va, 0)
		}
		holdNoAck(t, f, va-1, api.ErrArg)
		holdNoAck(t, f, va+7, api.ErrArg)
		holdView(t, f, flow.View{VS: (va + 6) % modulus, VA: va, Sent: 6})
		holdAck(t, f, va+6, 6)
		holdAck(t, f, va+6, 0)
		holdNoAck(t, f, va+5, api.ErrArg)
		holdNoAck(t, f, va, api.ErrArg)
		holdNoAck(t, f, va+7, api.ErrArg)
		holdView(t, f, flow.View{VS: (va + 6) % modulus, VA: (va + 6) % modulus})
	}
}

// P13.3: several answers one behind the other, each from where the one ahead of it left V(A). Of a whole window each number is let be, also the one ahead of V(A), which is V(S).
func TestAckOneByOne(t *testing.T) {
	f := moved(t, 127, 100, 127, 0)
	at := 100
	for _, way := range []int{0, 1, 0, 2, 1, 24, 30, 1, 60, 8} {
		if at > 100 {
			holdNoAck(t, f, at-1, api.ErrArg)
		}
		at += way
		holdAck(t, f, at, way)
		holdView(t, f, flow.View{VS: 99, VA: at % modulus, Sent: 227 - at})
	}
	holdAck(t, moved(t, 127, 100, 127, 0), 99, 127)
	holdNoAck(t, moved(t, 127, 100, 126, 0), 99, api.ErrArg)
}

// P13.3: Ack of whatever marks are set leaves them, V(R) and what isn't sent.
func TestAckMarked(t *testing.T) {
	f := marked(t, 7, 126, 4, 2, 9)
	holdNoAck(t, f, 3, api.ErrArg)
	holdAck(t, f, 1, 3)
	holdView(t, f, flow.View{VS: 2, VA: 1, VR: 9, Peer: true, Own: true, Refused: true, Sent: 1, Left: 2})
}

// Rule 3: refused answers, many of them, change nothing that a later call could tell.
func TestAckRefused(t *testing.T) {
	f := moved(t, 5, 125, 4, 4)
	for n := range modulus {
		for _, nr := range spelt(n) {
			if (n+3)%modulus > 4 {
				holdNoAck(t, f, nr, api.ErrArg)
			}
		}
	}
	holdTake(t, f, 1, "4")
	holdNoTake(t, f)
	holdAck(t, f, 127, 2)
	holdTake(t, f, 2, "5", "6")
	f.Back()
	holdTake(t, f, 127, "2", "3", "4", "5", "6")
}

// P13.3: Back with none, some and all sent; what was sent comes again, in order, with the same numbers, and what wasn't behind it.
func TestBack(t *testing.T) {
	for _, va := range []int{0, 1, 77, 122, 126, 127} {
		for many := range 7 {
			for sent := range many + 1 {
				f := moved(t, 7, va, sent, many-sent)
				for range 2 {
					f.Back()
					holdView(t, f, flow.View{VS: va, VA: va, Left: many})
				}
				holdAck(t, f, va, 0)
				holdNoAck(t, f, va+1, api.ErrArg)
				holdTake(t, f, va, payloads(0, many)...)
				holdNoTake(t, f)
				holdView(t, f, flow.View{VS: (va + many) % modulus, VA: va, Sent: many})
			}
		}
	}
}

// P13.3: Back goes to V(A), not to where it all began; what is answered doesn't come again.
func TestBackBehindAck(t *testing.T) {
	for answered := range 6 {
		f := moved(t, 9, 124, 5, 3)
		holdAck(t, f, 124+answered, answered)
		f.Back()
		holdView(t, f, flow.View{VS: (124 + answered) % modulus, VA: (124 + answered) % modulus, Left: 8 - answered})
		holdTake(t, f, 124+answered, payloads(answered, 2)...)
		f.Back()
		holdTake(t, f, 124+answered, payloads(answered, 8-answered)...)
	}
}

// P13.3: Back of a whole window, and of all marks set, which it leaves, as V(R).
func TestBackMarked(t *testing.T) {
	f := marked(t, 127, 3, 127, 129, 127)
	f.Back()
	holdView(t, f, flow.View{VS: 3, VA: 3, VR: 127, Peer: true, Own: true, Refused: true, Left: 256})
	holdNoTake(t, f)
	f.SetPeer(false)
	holdTake(t, f, 3, payloads(0, 127)...)
	holdNoTake(t, f)
}

// P13.4: V(R), again and again, from 127 on to 0 and several times round.
func TestComeRound(t *testing.T) {
	f := moved(t, 7, 5, 2, 1)
	for n := range 3*modulus + 5 {
		holdView(t, f, flow.View{VS: 7, VA: 5, VR: n % modulus, Sent: 2, Left: 1})
		holdCome(t, f, flow.Next, n%modulus)
	}
	holdView(t, f, flow.View{VS: 7, VA: 5, VR: 5, Sent: 2, Left: 1})
}

// P13.4: each number, spelt in all ways, at each V(R): V(R) is next; each other one is wrong at first, and then again, till V(R) comes.
func TestCome(t *testing.T) {
	f := flow.New(7, 9)
	for vr := range modulus {
		for way := 1; way < modulus; way++ {
			want := flow.Again
			if way == 1 {
				want = flow.Wrong
			}
			for i, ns := range spelt(vr + way) {
				if i > 0 {
					want = flow.Again
				}
				holdCome(t, f, want, ns)
				holdView(t, f, flow.View{VR: vr, Refused: true})
			}
		}
		of := spelt(vr)
		holdCome(t, f, flow.Next, of[vr%len(of)])
		holdView(t, f, flow.View{VR: (vr + 1) % modulus})
	}
}

// P13.4: what is first wrong may be any number but V(R).
func TestComeWrong(t *testing.T) {
	for _, vr := range []int{0, 1, 64, 126, 127} {
		for way := range modulus {
			for _, ns := range spelt(vr + way) {
				f := flow.New(7, 9)
				for n := range vr {
					holdCome(t, f, flow.Next, n)
				}
				if way == 0 {
					holdCome(t, f, flow.Next, ns)
					holdView(t, f, flow.View{VR: (vr + 1) % modulus})
					continue
				}
				holdCome(t, f, flow.Wrong, ns)
				holdCome(t, f, flow.Again, ns)
				holdView(t, f, flow.View{VR: vr, Refused: true})
				holdCome(t, f, flow.Next, vr)
				holdView(t, f, flow.View{VR: (vr + 1) % modulus})
			}
		}
	}
}

// P13.4: the one ahead of V(R), the one behind it, twice wrong and then right, and wrong anew behind that, going on from 127 to 0.
func TestComeTwiceWrong(t *testing.T) {
	f := flow.New(7, 9)
	for n := range 2*modulus + 3 {
		holdCome(t, f, flow.Wrong, n-1)
		holdCome(t, f, flow.Again, n+1, n-1, n+65)
		holdCome(t, f, flow.Next, n)
		holdView(t, f, flow.View{VR: (n + 1) % modulus})
	}
}

// P13.4: with Own set all are busy, and nothing changes, whether a wrong one was refused or not.
func TestComeOwn(t *testing.T) {
	for _, vr := range []int{0, 1, 126, 127} {
		for _, refused := range []bool{false, true} {
			f := moved(t, 7, 3, 2, 1)
			for n := range vr {
				holdCome(t, f, flow.Next, n)
			}
			if refused {
				holdCome(t, f, flow.Wrong, vr+1)
			}
			holdOwn(t, f, true, true)
			for n := range modulus {
				holdCome(t, f, flow.Busy, spelt(vr+n)...)
				holdView(t, f, flow.View{VS: 5, VA: 3, VR: vr, Own: true, Refused: refused, Sent: 2, Left: 1})
			}
			holdOwn(t, f, false, true)
			if refused {
				holdCome(t, f, flow.Again, vr+1)
			} else {
				holdCome(t, f, flow.Wrong, vr+1)
			}
			holdCome(t, f, flow.Next, vr)
			holdView(t, f, flow.View{VS: 5, VA: 3, VR: (vr + 1) % modulus, Sent: 2, Left: 1})
		}
	}
}

// P13.4: that the peer is busy doesn't matter to what comes.
func TestComePeer(t *testing.T) {
	f := flow.New(7, 9)
	f.SetPeer(true)
	holdCome(t, f, flow.Next, 0, 1)
	holdCome(t, f, flow.Wrong, 1)
	holdCome(t, f, flow.Again, 1)
	holdCome(t, f, flow.Next, 2)
	holdView(t, f, flow.View{VR: 3, Peer: true})
}

// P13.5: SetOwn tells whether it is new, of what it was and of what it wasn't; SetPeer and SetOwn have nothing to do with one another, nor with the rest.
func TestSet(t *testing.T) {
	f := moved(t, 7, 126, 3, 2)
	want := f.View()
	for _, own := range []bool{false, false, true, true, true, false, true, false, false} {
		for _, peer := range []bool{true, true, false, false, true} {
			f.SetPeer(peer)
			want.Peer = peer
			holdView(t, f, want)
			holdOwn(t, f, own, own != want.Own)
			want.Own = own
			holdView(t, f, want)
			holdOwn(t, f, own, false)
			holdView(t, f, want)
		}
	}
	holdCome(t, f, flow.Wrong, 1)
	holdOwn(t, f, true, true)
	f.SetPeer(true)
	f.SetPeer(false)
	holdOwn(t, f, false, true)
	want.Peer, want.Own, want.Refused = false, false, true
	holdView(t, f, want)
	holdCome(t, f, flow.Again, 1)
}

// P13.5: Reset with none, some and all sent: the payloads stay, and are told from 0 on.
func TestReset(t *testing.T) {
	for _, va := range []int{0, 1, 77, 126, 127} {
		for many := range 7 {
			for sent := range many + 1 {
				f := moved(t, 7, va, sent, many-sent)
				for range 2 {
					f.Reset()
					holdView(t, f, flow.View{Left: many})
				}
				holdAck(t, f, 0, 0)
				holdNoAck(t, f, 1, api.ErrArg)
				holdTake(t, f, 0, payloads(0, many)...)
				holdNoTake(t, f)
				holdView(t, f, flow.View{VS: many, Sent: many})
			}
		}
	}
}

// P13.5: Reset unsets all; what comes then is counted from 0 on.
func TestResetMarked(t *testing.T) {
	for _, vr := range []int{0, 1, 5, 127} {
		f := marked(t, 7, 126, 4, 2, vr)
		f.Reset()
		holdView(t, f, flow.View{Left: 6})
		holdCome(t, f, flow.Wrong, 127)
		holdCome(t, f, flow.Next, 0)
		holdOwn(t, f, false, false)
		holdTake(t, f, 0, payloads(0, 6)...)
		holdView(t, f, flow.View{VS: 6, VR: 1, Sent: 6})
	}
	f := flow.New(7, 9)
	holdOwn(t, f, true, true)
	f.Reset()
	holdOwn(t, f, true, true)
}

// P13.5: k and most are the same behind Reset and Clear.
func TestResetBounds(t *testing.T) {
	for _, anew := range []func(*flow.Flow){(*flow.Flow).Reset, func(f *flow.Flow) { f.Clear(); f.Reset() }, func(f *flow.Flow) { f.Reset(); f.Clear() }} {
		f := flow.New(3, 5)
		holdPush(t, f, api.OK, payloads(100, 5)...)
		holdTake(t, f, 0, payloads(100, 3)...)
		anew(f)
		for i := f.View().Left; i < 5; i++ {
			holdPush(t, f, api.OK, strconv.Itoa(100+i))
		}
		holdPush(t, f, api.ErrFull, "more")
		holdTake(t, f, 0, payloads(100, 3)...)
		holdNoTake(t, f)
		holdView(t, f, flow.View{VS: 3, Sent: 3, Left: 2})
	}
}

// P13.5: Clear with none, some and all sent: how many there were; V(S) is V(A), from where it goes on.
func TestClear(t *testing.T) {
	for _, va := range []int{0, 1, 77, 122, 126, 127} {
		for many := range 7 {
			for sent := range many + 1 {
				f := moved(t, 7, va, sent, many-sent)
				holdClear(t, f, many)
				holdView(t, f, flow.View{VS: va, VA: va})
				holdNoTake(t, f)
				holdAck(t, f, va, 0)
				holdNoAck(t, f, va+1, api.ErrArg)
				f.Back()
				holdNoTake(t, f)
				holdClear(t, f, 0)
				holdPush(t, f, api.OK, payloads(50, 8)...)
				holdTake(t, f, va, payloads(50, 7)...)
				holdNoTake(t, f)
			}
		}
	}
}

// P13.5: Clear of a full queue and a whole window, and of some behind an answer; V(R) and all marks stay.
func TestClearMarked(t *testing.T) {
	f := marked(t, 127, 126, 127, 129, 64)
	holdClear(t, f, 256)
	holdView(t, f, flow.View{VS: 126, VA: 126, VR: 64, Peer: true, Own: true, Refused: true})
	f = marked(t, 7, 126, 5, 2, 9)
	holdAck(t, f, 1, 3)
	holdClear(t, f, 4)
	holdView(t, f, flow.View{VS: 1, VA: 1, VR: 9, Peer: true, Own: true, Refused: true})
}

// P2: two flows side by side, and one that is made while others are at work.
func TestSideBySide(t *testing.T) {
	a, b := flow.New(2, 4), flow.New(2, 4)
	holdPush(t, a, api.OK, "a0", "a1", "a2")
	holdView(t, b, flow.View{})
	holdPush(t, b, api.OK, "b0", "b1", "b2", "b3")
	holdTake(t, a, 0, "a0", "a1")
	holdTake(t, b, 0, "b0")
	holdAck(t, a, 2, 2)
	holdNoAck(t, b, 2, api.ErrArg)
	b.SetPeer(true)
	holdOwn(t, b, true, true)
	holdCome(t, a, flow.Wrong, 3)
	c := flow.New(2, 4)
	holdView(t, c, flow.View{})
	holdCome(t, c, flow.Next, 0)
	holdView(t, a, flow.View{VS: 2, VA: 2, Refused: true, Left: 1})
	holdView(t, b, flow.View{VS: 1, Peer: true, Own: true, Sent: 1, Left: 3})
	a.Reset()
	holdClear(t, c, 0)
	holdView(t, b, flow.View{VS: 1, Peer: true, Own: true, Sent: 1, Left: 3})
	holdClear(t, b, 4)
	holdTake(t, a, 0, "a2")
	holdView(t, c, flow.View{VR: 1})
}

// words is a flow as the chapter's words have it. Its numbers go on without end: what is told of them is told modulo 128.
type words struct {
	window, takes      int
	vs, va, vr         int
	peer, own, refused bool
	all                []string // from V(A) on
}

func (w *words) view() flow.View {
	return flow.View{
		VS: w.vs % modulus, VA: w.va % modulus, VR: w.vr % modulus,
		Peer: w.peer, Own: w.own, Refused: w.refused,
		Sent: w.vs - w.va, Left: len(w.all) - (w.vs - w.va),
	}
}

func (w *words) push(s string) api.Errno {
	switch {
	case len(s) > maxInfo:
		return api.ErrLong
	case len(w.all) == w.takes:
		return api.ErrFull
	}
	w.all = append(w.all, s)
	return api.OK
}

func (w *words) take() (string, bool) {
	if w.peer || w.vs-w.va == len(w.all) || w.vs-w.va == w.window {
		return "", false
	}
	w.vs++
	return w.all[w.vs-w.va-1], true
}

// ack goes from V(A) on to V(S), one by one, till it meets a number that differs from nr by a multiple of 128.
func (w *words) ack(nr int) (int, api.Errno) {
	for at := w.va; at <= w.vs; at++ {
		if at%modulus != (nr%modulus+modulus)%modulus {
			continue
		}
		way := at - w.va
		w.va, w.all = at, w.all[way:]
		return way, api.OK
	}
	return 0, api.ErrArg
}

func (w *words) come(ns int) flow.Got {
	if w.own {
		return flow.Busy
	}
	if w.vr%modulus == (ns%modulus+modulus)%modulus {
		w.vr, w.refused = w.vr+1, false
		return flow.Next
	}
	if !w.refused {
		w.refused = true
		return flow.Wrong
	}
	return flow.Again
}

// holdSend: does a call of what is sent, picked by chance, answer as the words do?
func holdSend(t *testing.T, f *flow.Flow, w *words, chance *rand.Rand) {
	t.Helper()
	switch chance.Intn(8) {
	case 0, 1, 2:
		s := strings.Repeat(string(rune('a'+chance.Intn(26))), chance.Intn(5))
		if chance.Intn(50) == 0 {
			s = strings.Repeat("x", maxInfo+chance.Intn(2))
		}
		holdPush(t, f, w.push(s), s)
	case 3, 4, 5:
		ns := w.vs
		if want, ok := w.take(); ok {
			holdTake(t, f, ns, want)
		} else {
			holdNoTake(t, f)
		}
	case 6:
		nr := w.va + chance.Intn(w.vs-w.va+4) - 1
		nr = nr%modulus + multiples[chance.Intn(len(multiples))]/2/modulus*modulus // halved: nr may be below 0
		if want, e := w.ack(nr); e == api.OK {
			holdAck(t, f, nr, want)
		} else {
			holdNoAck(t, f, nr, e)
		}
	case 7:
		if chance.Intn(4) == 0 {
			f.Back()
			w.vs = w.va
		}
	}
}

// holdGet: likewise of what comes, and of what is set and begins anew.
func holdGet(t *testing.T, f *flow.Flow, w *words, chance *rand.Rand) {
	t.Helper()
	busy := chance.Intn(3) == 0
	switch chance.Intn(40) {
	case 0:
		f.SetPeer(busy)
		w.peer = busy
	case 1:
		holdOwn(t, f, busy, w.own != busy)
		w.own = busy
	case 2:
		if busy {
			holdClear(t, f, len(w.all))
			w.vs, w.all = w.va, nil
		}
	case 3:
		if busy {
			f.Reset()
			w.vs, w.va, w.vr = 0, 0, 0
			w.peer, w.own, w.refused = false, false, false
		}
	default:
		ns := w.vr%modulus + multiples[chance.Intn(len(multiples))]/2/modulus*modulus
		if chance.Intn(4) == 0 {
			ns += chance.Intn(modulus) - modulus/2
		}
		holdCome(t, f, w.come(ns), ns)
	}
}

// P13.1 to P13.5: long rows of calls against the chapter's words, with windows and queues of many sizes.
func TestWords(t *testing.T) {
	chance := rand.New(rand.NewSource(13))
	for round := range 3 * len(windows) {
		k, takes := windows[round%len(windows)], []int{1, 2, 9, 130, 256}[chance.Intn(5)]
		f, w := flow.New(k.k, takes), &words{window: k.window, takes: takes}
		for range 3000 {
			if chance.Intn(3) == 0 {
				holdGet(t, f, w, chance)
			} else {
				holdSend(t, f, w, chance)
			}
			holdView(t, f, w.view())
			if t.Failed() {
				t.FailNow()
			}
		}
	}
}
