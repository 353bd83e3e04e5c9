package pool_test

import (
	"math"
	"math/rand"
	"slices"
	"testing"

	"lapwing/api"
	"lapwing/pool"
)

// The automatic TEIs, by numbers that were written out.
const (
	first = 64
	last  = 126
	many  = 63
)

// others are numbers that are no automatic TEIs, some of which look like one if they are cut to fewer bits, or are taken modulo 63, 64 or 128.
var others = []int{
	63, 62, 1, 0, 127, 128, 129, 190, 191, 192, 200, 254, 255, 256, 320, 382,
	-1, -2, -62, -63, -64, -65, -126, -127, -128,
	65536, 65600, 65662, -65536 + 64, math.MaxInt32, math.MinInt32, 1<<32 + 64, 1<<32 + 126, -1<<32 + 64,
	math.MaxInt - 1, math.MaxInt, math.MinInt, math.MinInt + 1, math.MinInt + 63, math.MinInt + 64, math.MinInt + 126,
}

// span: the TEIs from one to another, both of them.
func span(from, to int) []int {
	var out []int
	for tei := from; tei <= to; tei++ {
		out = append(out, tei)
	}
	return out
}

// but: the TEIs without some of them.
func but(teis []int, without ...int) []int {
	return slices.DeleteFunc(slices.Clone(teis), func(tei int) bool { return slices.Contains(without, tei) })
}

// full: a pool all of which Assign has told, one behind the other.
func full(t *testing.T) *pool.Pool {
	t.Helper()
	p := pool.New()
	holdAssign(t, p, span(first, last)...)
	return p
}

func holdAssign(t *testing.T, p *pool.Pool, want ...int) {
	t.Helper()
	for i, w := range want {
		if got, e := p.Assign(); got != w || e != api.OK {
			t.Errorf("Assign() = %d, %v, want %d, %v, number %d of these", got, e, w, api.OK, i)
		}
	}
}

func holdNoAssign(t *testing.T, p *pool.Pool, want api.Errno) {
	t.Helper()
	if got, e := p.Assign(); got != 0 || e != want {
		t.Errorf("Assign() = %d, %v, want 0, %v", got, e, want)
	}
}

func holdClaim(t *testing.T, p *pool.Pool, want api.Errno, teis ...int) {
	t.Helper()
	for _, tei := range teis {
		if got := p.Claim(tei); got != want {
			t.Errorf("Claim(%d) = %v, want %v", tei, got, want)
		}
	}
}

func holdFree(t *testing.T, p *pool.Pool, want bool, teis ...int) {
	t.Helper()
	for _, tei := range teis {
		if got := p.Free(tei); got != want {
			t.Errorf("Free(%d) = %t, want %t", tei, got, want)
		}
	}
}

// holdHas: are these assigned, and no others?
func holdHas(t *testing.T, p *pool.Pool, want ...int) {
	t.Helper()
	if got := p.List(); !slices.Equal(got, want) {
		t.Errorf("List() = %d, want %d", got, want)
	}
	for _, tei := range append(span(-1, 260), others...) {
		if got, w := p.Has(tei), slices.Contains(want, tei); got != w {
			t.Errorf("Has(%d) = %t, want %t", tei, got, w)
		}
	}
}

// words is a pool as the chapter's words have it.
type words struct {
	assigned map[int]int
	told     int // the one that Assign told last; one ahead of the first, if it told none
}

func wordsOf() *words { return &words{assigned: map[int]int{}, told: first - 1} }

func (w *words) has(tei int) bool { return w.assigned[tei] == 1 }

func (w *words) assign() (int, api.Errno) {
	if len(w.assigned) == many {
		return 0, api.ErrFull
	}
	tei := follower(w.told)
	for w.has(tei) {
		tei = follower(tei)
	}
	w.assigned[tei], w.told = 1, tei
	return tei, api.OK
}

func follower(tei int) int {
	if tei == last {
		return first
	}
	return tei + 1
}

func (w *words) claim(tei int) api.Errno {
	if !slices.Contains(span(first, last), tei) {
		return api.ErrArg
	}
	if w.has(tei) {
		return api.ErrThere
	}
	w.assigned[tei] = 1
	return api.OK
}

func (w *words) free(tei int) bool {
	was := w.has(tei)
	delete(w.assigned, tei)
	return was
}

func (w *words) list() []int {
	var out []int
	for tei := range w.assigned {
		out = append(out, tei)
	}
	slices.Sort(out)
	return out
}

// The chapter's example.
func TestExample(t *testing.T) {
	p := pool.New()
	holdAssign(t, p, 64, 65)
	holdFree(t, p, true, 64)
	holdAssign(t, p, 66)
}

// What is said of a nil pool, with good arguments and with wrong ones.
func TestNil(t *testing.T) {
	var p *pool.Pool
	for range 2 {
		holdNoAssign(t, p, api.ErrNil)
		holdClaim(t, p, api.ErrNil, span(first, last)...)
		holdClaim(t, p, api.ErrNil, others...)
		holdFree(t, p, false, span(first, last)...)
		holdFree(t, p, false, others...)
		holdHas(t, p)
	}
}

// A pool that New didn't make is one of New.
func TestOfNobody(t *testing.T) {
	var p pool.Pool
	holdHas(t, &p)
	holdClaim(t, &p, api.OK, 65)
	holdAssign(t, &p, 64, 66)
	holdHas(t, &p, 64, 65, 66)
}

// P12.1: of a new pool none is assigned.
func TestNew(t *testing.T) {
	p := pool.New()
	holdHas(t, p)
	holdFree(t, p, false, span(first, last)...)
	holdHas(t, p)
	holdAssign(t, p, first)
	holdHas(t, p, first)
}

// P12.1: all 63 are told one behind the other, and then no more, however often it is asked.
func TestAssignAll(t *testing.T) {
	p := pool.New()
	for tei := first; tei <= last; tei++ {
		holdAssign(t, p, tei)
		holdHas(t, p, span(first, tei)...)
	}
	for range 3 {
		holdNoAssign(t, p, api.ErrFull)
		holdHas(t, p, span(first, last)...)
	}
}

// P12.1: ErrFull also where all were claimed, or some claimed and some told.
func TestAssignFullOfClaimed(t *testing.T) {
	for told := range many + 1 {
		p := pool.New()
		holdAssign(t, p, span(first, first+told-1)...)
		holdClaim(t, p, api.OK, span(first+told, last)...)
		holdNoAssign(t, p, api.ErrFull)
		holdNoAssign(t, p, api.ErrFull)
		holdHas(t, p, span(first, last)...)
	}
}

// P12.1: LastTEI is followed by FirstTEI, and on from there, several times round.
func TestAssignRound(t *testing.T) {
	p := full(t)
	for range 3 {
		holdFree(t, p, true, span(first, last)...)
		holdHas(t, p)
		holdAssign(t, p, span(first, last)...)
	}
	holdFree(t, p, true, first, first+1)
	holdAssign(t, p, first, first+1)
	holdNoAssign(t, p, api.ErrFull)
}

// P12.1: with one alone assigned at a time, each is told in its turn.
func TestAssignOneByOne(t *testing.T) {
	p := pool.New()
	for range 3 {
		for tei := first; tei <= last; tei++ {
			holdAssign(t, p, tei)
			holdHas(t, p, tei)
			holdFree(t, p, true, tei)
		}
	}
	holdHas(t, p)
}

// P12.1: the one told last, which is free again, comes last of all: every other one is told ahead of it.
func TestAssignFreedLast(t *testing.T) {
	for at := first; at <= last; at++ {
		p := pool.New()
		holdAssign(t, p, span(first, at)...)
		holdFree(t, p, true, at)
		holdAssign(t, p, span(at+1, last)...)
		holdAssign(t, p, at)
		holdNoAssign(t, p, api.ErrFull)
	}
}

// P12.1: one of those ahead of the one told last is told when it comes round again, not sooner.
func TestAssignFreedAhead(t *testing.T) {
	for at := first + 1; at <= last; at++ {
		for freed := first; freed < at; freed++ {
			p := pool.New()
			holdAssign(t, p, span(first, at)...)
			holdFree(t, p, true, freed)
			holdAssign(t, p, span(at+1, last)...)
			holdAssign(t, p, freed)
			holdNoAssign(t, p, api.ErrFull)
		}
	}
}

// P12.1: one of those behind the one told last is the next, if all between are assigned.
func TestAssignFreedBehind(t *testing.T) {
	for at := first; at < last; at++ {
		for freed := at + 1; freed <= last; freed++ {
			p := full(t)
			holdFree(t, p, true, at)
			holdAssign(t, p, at)
			holdFree(t, p, true, freed, first+(at-first)/2)
			holdAssign(t, p, freed, first+(at-first)/2)
			holdNoAssign(t, p, api.ErrFull)
		}
	}
}

// P12.1: with one alone free, it is told from wherever Assign goes on, and Assign goes on behind it.
func TestAssignOneFree(t *testing.T) {
	for at := first; at <= last; at++ {
		for freed := first; freed <= last; freed++ {
			p := full(t)
			holdFree(t, p, true, at)
			holdAssign(t, p, at)
			holdFree(t, p, true, freed)
			holdAssign(t, p, freed)
			holdNoAssign(t, p, api.ErrFull)
			holdFree(t, p, true, freed, follower(freed))
			holdAssign(t, p, follower(freed), freed)
		}
	}
}

// P12.1: past one that is claimed, wherever it is.
func TestAssignPastOne(t *testing.T) {
	for claimed := first; claimed <= last; claimed++ {
		p := pool.New()
		holdClaim(t, p, api.OK, claimed)
		holdAssign(t, p, but(span(first, last), claimed)...)
		holdNoAssign(t, p, api.ErrFull)
	}
}

// P12.1: past several that are claimed: at the beginning, in the middle, at the end, in two rows, every second one, all but one.
func TestAssignPastSeveral(t *testing.T) {
	var second []int
	for tei := first; tei <= last; tei += 2 {
		second = append(second, tei)
	}
	for _, claimed := range [][]int{
		{64, 65}, {64, 65, 66, 67, 68}, {65, 66}, {90, 91, 92, 93}, {125, 126}, {120, 121, 122, 123, 124, 125, 126},
		{64, 126}, {64, 65, 66, 125, 126}, {70, 71, 72, 100, 101, 102}, second, but(span(first, last), 64), but(span(first, last), 100), but(span(first, last), 126),
	} {
		p := pool.New()
		holdClaim(t, p, api.OK, claimed...)
		holdHas(t, p, claimed...)
		holdAssign(t, p, but(span(first, last), claimed...)...)
		holdNoAssign(t, p, api.ErrFull)
		holdHas(t, p, span(first, last)...)
	}
}

// P12.1: past several that are claimed on both sides of LastTEI.
func TestAssignPastLast(t *testing.T) {
	for ahead := range 6 {
		for behind := range 6 {
			p := pool.New()
			holdAssign(t, p, span(first, 120)...)
			holdFree(t, p, true, span(first, 80)...)
			holdClaim(t, p, api.OK, span(last-ahead+1, last)...)
			holdClaim(t, p, api.OK, span(first, first+behind-1)...)
			holdAssign(t, p, span(121, last-ahead)...)
			holdAssign(t, p, span(first+behind, 80)...)
			holdNoAssign(t, p, api.ErrFull)
		}
	}
}

// P12.1: LastTEI is told, and FirstTEI, and those behind it, are claimed or free.
func TestAssignBehindLast(t *testing.T) {
	for claimed := range many - 1 {
		p := full(t)
		holdFree(t, p, true, span(first, last-1)...)
		holdClaim(t, p, api.OK, span(first, first+claimed-1)...)
		holdAssign(t, p, span(first+claimed, last-1)...)
		holdNoAssign(t, p, api.ErrFull)
	}
}

// P12.1 and P12.2: Claim and Free, whatever they answer, don't change from where Assign goes on.
func TestAssignGoesOn(t *testing.T) {
	for at := first; at < last; at++ {
		for other := first; other <= last; other++ {
			p := pool.New()
			holdAssign(t, p, span(first, at)...)
			was := p.Has(other)
			p.Claim(other)
			holdFree(t, p, true, other)
			holdFree(t, p, false, other)
			if was {
				holdClaim(t, p, api.OK, other)
				holdClaim(t, p, api.ErrThere, other)
			}
			holdAssign(t, p, at+1)
		}
	}
}

// P12.1: at first Assign goes on from FirstTEI, also if others were claimed and freed ahead of it.
func TestAssignFirstBehindClaim(t *testing.T) {
	for tei := first; tei <= last; tei++ {
		p := pool.New()
		holdClaim(t, p, api.OK, tei)
		holdFree(t, p, true, tei)
		holdAssign(t, p, 64, 65)
	}
	p := pool.New()
	holdClaim(t, p, api.OK, span(first, last)...)
	holdNoAssign(t, p, api.ErrFull)
	holdFree(t, p, true, 126, 100, 64)
	holdAssign(t, p, 64, 100, 126)
}

// Rule 3: an Assign that was ErrFull leaves from where the next one goes on.
func TestAssignBehindFull(t *testing.T) {
	for at := first; at <= last; at++ {
		p := full(t)
		holdFree(t, p, true, at)
		holdAssign(t, p, at)
		for range 5 {
			holdNoAssign(t, p, api.ErrFull)
		}
		freed := []int{follower(follower(at)), at, follower(at)}
		holdFree(t, p, true, freed...)
		holdHas(t, p, but(span(first, last), freed...)...)
		holdAssign(t, p, follower(at), follower(follower(at)), at)
		holdNoAssign(t, p, api.ErrFull)
	}
}

// P12.1: what is claimed when the pool is full but for it makes it full; what is freed behind an ErrFull may be claimed.
func TestClaimTheLastOne(t *testing.T) {
	for tei := first; tei <= last; tei++ {
		p := full(t)
		holdNoAssign(t, p, api.ErrFull)
		holdClaim(t, p, api.ErrThere, tei)
		holdFree(t, p, true, tei)
		holdClaim(t, p, api.OK, tei)
		holdNoAssign(t, p, api.ErrFull)
		holdClaim(t, p, api.ErrThere, tei)
	}
}

// P12.1: each one may be claimed, is assigned then, and may be claimed again when it is freed, but not sooner.
func TestClaim(t *testing.T) {
	for tei := first; tei <= last; tei++ {
		p := pool.New()
		for range 3 {
			holdClaim(t, p, api.OK, tei)
			holdHas(t, p, tei)
			holdClaim(t, p, api.ErrThere, tei, tei)
			holdHas(t, p, tei)
			holdFree(t, p, true, tei)
			holdHas(t, p)
		}
	}
}

// P12.1: what Assign told is there, too.
func TestClaimAssigned(t *testing.T) {
	p := pool.New()
	holdAssign(t, p, 64, 65, 66)
	holdClaim(t, p, api.ErrThere, 64, 65, 66)
	holdHas(t, p, 64, 65, 66)
	holdFree(t, p, true, 65)
	holdClaim(t, p, api.OK, 65)
	holdClaim(t, p, api.ErrThere, 65)
	holdHas(t, p, 64, 65, 66)
}

// P12.1 and P12.2: numbers that are no automatic TEIs are neither claimed, nor freed, nor there, in a pool of none, of some and of all.
func TestOthers(t *testing.T) {
	some := pool.New()
	holdClaim(t, some, api.OK, 64, 100, 126)
	for _, x := range []struct {
		p   *pool.Pool
		has []int
	}{{pool.New(), nil}, {some, []int{64, 100, 126}}, {full(t), span(first, last)}} {
		for _, tei := range others {
			holdClaim(t, x.p, api.ErrArg, tei, tei)
			holdFree(t, x.p, false, tei)
			if x.p.Has(tei) {
				t.Errorf("Has(%d) = true", tei)
			}
		}
		holdHas(t, x.p, x.has...)
	}
}

// Rule 3: wrong inputs don't change from where Assign goes on.
func TestOthersBetween(t *testing.T) {
	p := pool.New()
	for tei := first; tei <= last; tei++ {
		holdClaim(t, p, api.ErrArg, others...)
		holdFree(t, p, false, others...)
		holdAssign(t, p, tei)
		holdClaim(t, p, api.ErrThere, span(first, tei)...)
		holdFree(t, p, false, span(tei+1, last)...)
	}
	holdNoAssign(t, p, api.ErrFull)
}

// P12.2: Free tells whether it was assigned, once, and leaves the others.
func TestFree(t *testing.T) {
	for tei := first; tei <= last; tei++ {
		p := full(t)
		holdFree(t, p, true, tei)
		holdHas(t, p, but(span(first, last), tei)...)
		holdFree(t, p, false, tei, tei)
		holdHas(t, p, but(span(first, last), tei)...)
	}
}

// P12.2: all are freed, from the first on, from the last on, and out of order.
func TestFreeAll(t *testing.T) {
	for _, step := range []int{1, 62, 2, 10, 50} { // none of them has a divisor with 63 in common
		p, left := full(t), span(first, last)
		for i := range many {
			tei := first + i*step%many
			left = but(left, tei)
			holdFree(t, p, true, tei)
			holdHas(t, p, left...)
		}
		holdFree(t, p, false, span(first, last)...)
	}
}

// P12.2: List of none, one, several that were assigned out of order, and all: rising each time.
func TestList(t *testing.T) {
	p := pool.New()
	holdHas(t, p)
	var has []int
	for i := range many {
		tei := first + (40+i*5)%many
		holdClaim(t, p, api.OK, tei)
		has = append(has, tei)
		slices.Sort(has)
		holdHas(t, p, has...)
	}
	holdHas(t, p, span(first, last)...)
}

// P12.2: also where Assign went round, so that later ones are less.
func TestListRound(t *testing.T) {
	p := full(t)
	holdFree(t, p, true, span(first, 124)...)
	holdAssign(t, p, 64, 65)
	holdClaim(t, p, api.OK, 99, 70)
	holdHas(t, p, 64, 65, 70, 99, 125, 126)
}

// P12.2: List and Has change nothing.
func TestListAgain(t *testing.T) {
	p := pool.New()
	for tei := first; tei <= last; tei++ {
		holdAssign(t, p, tei)
		for range 3 {
			holdHas(t, p, span(first, tei)...)
		}
	}
}

// Rule 4: what the caller does with a list that was told changes neither the pool nor another list.
func TestListChanged(t *testing.T) {
	for _, many := range []int{1, 2, 3, 5, 8, 62, 63} {
		p := pool.New()
		want := span(first, first+many-1)
		holdAssign(t, p, want...)
		one, two := p.List(), p.List()
		for i := range one {
			one[i] = 0
		}
		_ = append(one, 5, 6, 7)
		_ = append(one[:0], 99, 98)
		clear(one[:cap(one)])
		if !slices.Equal(two, want) {
			t.Errorf("another list became %d, want %d", two, want)
		}
		holdHas(t, p, want...)
		_ = append(two, 1, 2, 3)
		holdHas(t, p, want...)
	}
}

// Rule 4: what the pool does later doesn't change a list that was told.
func TestListKept(t *testing.T) {
	p := pool.New()
	holdAssign(t, p, 64, 65, 66)
	list := p.List()
	holdFree(t, p, true, 64, 65)
	holdAssign(t, p, 67, 68, 69)
	p.List()
	if want := []int{64, 65, 66}; !slices.Equal(list, want) {
		t.Errorf("the list became %d, want %d", list, want)
	}
}

// P2: two pools side by side, and one that is made while others are at work.
func TestSideBySide(t *testing.T) {
	a, b := pool.New(), pool.New()
	holdAssign(t, a, 64, 65)
	holdHas(t, b)
	holdAssign(t, b, 64)
	holdClaim(t, b, api.OK, 65, 126)
	holdHas(t, a, 64, 65)
	holdFree(t, a, true, 64)
	holdHas(t, b, 64, 65, 126)
	c := full(t)
	holdNoAssign(t, c, api.ErrFull)
	holdAssign(t, a, 66)
	holdAssign(t, b, 66)
	holdFree(t, c, true, span(first, last)...)
	holdHas(t, a, 65, 66)
	holdHas(t, b, 64, 65, 66, 126)
	holdHas(t, c)
}

// holdCall: does a call, picked by chance, answer as the words do?
func holdCall(t *testing.T, p *pool.Pool, w *words, chance *rand.Rand, tei int) {
	t.Helper()
	switch chance.Intn(4) {
	case 0, 1:
		if want, e := w.assign(); e == api.OK {
			holdAssign(t, p, want)
		} else {
			holdNoAssign(t, p, e)
		}
	case 2:
		holdClaim(t, p, w.claim(tei), tei)
	case 3:
		holdFree(t, p, w.free(tei), tei)
	}
}

// P12.1 and P12.2: long rows of calls against the chapter's words, in pools that are nearly empty, half full and nearly full.
func TestWords(t *testing.T) {
	chance := rand.New(rand.NewSource(12))
	for round := range 60 {
		p, w := pool.New(), wordsOf()
		for tei := first; tei <= last; tei++ {
			if chance.Intn(60) < round {
				holdClaim(t, p, w.claim(tei), tei)
			}
		}
		for range 300 {
			tei := first - 2 + chance.Intn(many+4)
			holdCall(t, p, w, chance, tei)
			if got, want := p.Has(tei), w.has(tei); got != want {
				t.Errorf("Has(%d) = %t, want %t", tei, got, want)
			}
			if got, want := p.List(), w.list(); !slices.Equal(got, want) {
				t.Fatalf("List() = %d, want %d", got, want)
			}
		}
		holdHas(t, p, w.list()...)
	}
}
