package mux_test

import (
	"math"
	"slices"
	"testing"

	"lapwing/addr"
	"lapwing/api"
	"lapwing/mux"
)

// The limits, by numbers that were written out.
const (
	lastSAPI  = 63
	lastTEI   = 126
	broadcast = 127
	mostLinks = 128
)

// badSAPIs and badTEIs are numbers that no link for a mux has, some of which look good if they are cut to fewer bits, or are taken modulo 64 or 128.
var (
	badSAPIs = []int{
		-1, -2, -63, -64, -65, -128, 64, 65, 126, 127, 128, 192, 255, 256, 65536, 65599,
		math.MaxInt32, math.MinInt32, 1 << 32, 1<<32 + 63, -1 << 32, -1<<32 + 16,
		math.MaxInt - 1, math.MaxInt, math.MinInt, math.MinInt + 1, math.MinInt + 16,
	}
	badTEIs = []int{
		-1, -2, -63, -64, -127, -128, 127, 128, 129, 191, 192, 254, 255, 256, 320, 65536, 65600,
		math.MaxInt32, math.MinInt32, 1 << 32, 1<<32 + 64, -1 << 32, -1<<32 + 64,
		math.MaxInt - 1, math.MaxInt, math.MinInt, math.MinInt + 1, math.MinInt + 64,
	}
)

// ids are far apart, next to one another, and the same if they are cut to fewer bits; they rise.
var ids = []int{
	math.MinInt, math.MinInt + 1, -1 << 32, math.MinInt32, -129, -128, -10, -9, -2, -1,
	0, 1, 2, 9, 10, 99, 100, 127, 128, 255, 256, 65536, math.MaxInt32, 1 << 32, 1<<32 + 1, math.MaxInt - 1, math.MaxInt,
}

func link(sapi, tei int) addr.Link { return addr.Link{SAPI: sapi, TEI: tei} }

// links: pairs of a SAPI and a TEI.
func links(pairs ...[2]int) []addr.Link {
	var out []addr.Link
	for _, p := range pairs {
		out = append(out, link(p[0], p[1]))
	}
	return out
}

// row: so many links, no two of them the same, over several SAPIs and many TEIs.
func row(many int) []addr.Link {
	var out []addr.Link
	for i := range many {
		out = append(out, link(i*7%64, i/64*50+i%5))
	}
	return out
}

// badLinks: such as have a good TEI with a bad SAPI, a bad TEI with a good SAPI, and two bad ones.
func badLinks() []addr.Link {
	var out []addr.Link
	for _, sapi := range badSAPIs {
		out = append(out, link(sapi, 0), link(sapi, 64), link(sapi, lastTEI))
		for _, tei := range badTEIs {
			out = append(out, link(sapi, tei))
		}
	}
	for _, tei := range badTEIs {
		out = append(out, link(0, tei), link(16, tei), link(lastSAPI, tei))
	}
	return out
}

// joined: a mux of so many links, each of which that id has.
func joined(t *testing.T, most int, had map[addr.Link]int) *mux.Mux {
	t.Helper()
	m := mux.New(most)
	for l, id := range had {
		holdJoin(t, m, api.OK, id, l)
	}
	return m
}

func holdJoin(t *testing.T, m *mux.Mux, want api.Errno, id int, all ...addr.Link) {
	t.Helper()
	for i, l := range all {
		if got := m.Join(l, id); got != want {
			t.Errorf("Join(%v, %d) = %v, want %v, number %d of these", l, id, got, want, i)
		}
	}
}

func holdLeave(t *testing.T, m *mux.Mux, want bool, all ...addr.Link) {
	t.Helper()
	for _, l := range all {
		if got := m.Leave(l); got != want {
			t.Errorf("Leave(%v) = %t, want %t", l, got, want)
		}
	}
}

func holdDrop(t *testing.T, m *mux.Mux, id, want int) {
	t.Helper()
	if got := m.Drop(id); got != want {
		t.Errorf("Drop(%d) = %d, want %d", id, got, want)
	}
}

func holdRoute(t *testing.T, m *mux.Mux, l addr.Link, want ...int) {
	t.Helper()
	if got := m.Route(l); !slices.Equal(got, want) {
		t.Errorf("Route(%v) = %d, want %d", l, got, want)
	}
}

func holdLinks(t *testing.T, m *mux.Mux, id int, want ...addr.Link) {
	t.Helper()
	if got := m.Links(id); !slices.Equal(got, want) {
		t.Errorf("Links(%d) = %v, want %v", id, got, want)
	}
}

// holdHas: are these links had by those ids, and no others by anybody?
func holdHas(t *testing.T, m *mux.Mux, had map[addr.Link]int) {
	t.Helper()
	of := map[int][]addr.Link{}
	for _, id := range ids {
		of[id] = nil
	}
	for sapi := range lastSAPI + 1 {
		var here []int
		for tei := range lastTEI + 1 {
			l := link(sapi, tei)
			id, some := had[l]
			if !some {
				holdRoute(t, m, l)
				continue
			}
			holdRoute(t, m, l, id)
			of[id] = append(of[id], l)
			here = append(here, id)
		}
		slices.Sort(here)
		holdRoute(t, m, link(sapi, broadcast), slices.Compact(here)...)
	}
	for id, its := range of {
		holdLinks(t, m, id, its...)
	}
}

// The chapter's examples.
func TestExamples(t *testing.T) {
	m := mux.New(10)
	holdJoin(t, m, api.OK, 1, link(0, 64))
	holdJoin(t, m, api.OK, 2, link(0, 65))
	holdJoin(t, m, api.OK, 1, link(16, 64))
	holdRoute(t, m, link(0, 127), 1, 2)
	holdLinks(t, m, 1, link(0, 64), link(16, 64))
}

// What is said of a nil mux, with good arguments and with wrong ones.
func TestNil(t *testing.T) {
	var m *mux.Mux
	for _, l := range append(badLinks(), row(mostLinks+1)...) {
		holdJoin(t, m, api.ErrNil, 1, l)
		holdLeave(t, m, false, l)
		holdRoute(t, m, l)
	}
	for _, id := range ids {
		holdJoin(t, m, api.ErrNil, id, link(0, 64))
		holdDrop(t, m, id, 0)
		holdLinks(t, m, id)
	}
	holdRoute(t, m, link(0, broadcast))
}

// A mux that New didn't make is one of New(0).
func TestOfNobody(t *testing.T) {
	var m mux.Mux
	holdHas(t, &m, nil)
	holdLeave(t, &m, false, link(0, 64))
	holdDrop(t, &m, 0, 0)
	holdJoin(t, &m, api.OK, 3, link(0, 64))
	holdJoin(t, &m, api.ErrFull, 3, link(0, 65))
	holdHas(t, &m, map[addr.Link]int{link(0, 64): 3})
}

// P17.1: in a new mux nobody has a link.
func TestNew(t *testing.T) {
	for _, most := range []int{math.MinInt, -1, 0, 1, 2, mostLinks, mostLinks + 1, math.MaxInt} {
		m := mux.New(most)
		holdHas(t, m, nil)
		for _, l := range row(mostLinks) {
			holdLeave(t, m, false, l)
		}
		for _, id := range ids {
			holdDrop(t, m, id, 0)
		}
		holdHas(t, m, nil)
	}
}

// P17.1: how many links a mux takes, one more than that, and how many it takes again behind Leave, and behind Drop.
func TestMost(t *testing.T) {
	for _, x := range []struct{ most, takes int }{
		{math.MinInt, 1}, {math.MinInt + 1, 1}, {math.MinInt + 5, 1}, {math.MinInt32, 1}, {-1 << 32, 1}, {-1<<32 + 5, 1}, {-128, 1}, {-127, 1}, {-2, 1}, {-1, 1}, {0, 1},
		{1, 1}, {2, 2}, {3, 3}, {7, 7}, {63, 63}, {64, 64}, {126, 126}, {127, 127}, {128, 128},
		{129, 128}, {130, 128}, {255, 128}, {256, 128}, {257, 128}, {65536, 128}, {65537, 128}, {math.MaxInt32, 128}, {1 << 32, 128}, {1<<32 + 5, 128}, {math.MaxInt - 1, 128}, {math.MaxInt, 128},
	} {
		m, all := mux.New(x.most), row(x.takes+3)
		its, more := all[:x.takes], all[x.takes:]
		holdJoin(t, m, api.OK, 5, its...)
		holdJoin(t, m, api.ErrFull, 5, more...)
		holdJoin(t, m, api.ErrFull, 6, more...)
		holdLeave(t, m, true, its[0])
		holdJoin(t, m, api.OK, 6, more[0])
		holdJoin(t, m, api.ErrFull, 5, its[0])
		holdDrop(t, m, 6, 1)
		holdJoin(t, m, api.OK, 5, its[0])
		holdJoin(t, m, api.ErrFull, 6, more...)
		holdDrop(t, m, 5, x.takes)
		holdHas(t, m, nil)
		holdJoin(t, m, api.OK, 7, all[3:]...)
		holdJoin(t, m, api.ErrFull, 8, all[:3]...)
		for _, l := range all[3:] {
			holdLeave(t, m, true, l)
			holdJoin(t, m, api.OK, 9, l)
			holdJoin(t, m, api.ErrFull, 9, all[0])
		}
		holdDrop(t, m, 9, x.takes)
		holdDrop(t, m, 7, 0)
	}
}

// P17.1: it is all links that are counted, not those of one id, of one SAPI, or of one TEI.
func TestMostOfAll(t *testing.T) {
	for _, x := range [][]addr.Link{
		links([2]int{0, 64}, [2]int{0, 65}, [2]int{0, 66}, [2]int{0, 67}),
		links([2]int{0, 64}, [2]int{1, 64}, [2]int{2, 64}, [2]int{3, 64}),
		links([2]int{0, 64}, [2]int{1, 65}, [2]int{16, 66}, [2]int{63, 126}),
	} {
		for _, of := range [][]int{{4, 4, 4, 4}, {1, 2, 3, 4}, {1, 1, 2, 2}} {
			m := mux.New(3)
			for i, l := range x[:3] {
				holdJoin(t, m, api.OK, of[i], l)
			}
			holdJoin(t, m, api.ErrFull, of[3], x[3])
		}
	}
}

// P17.1: each link that is one for a mux may be had, and is had by that one then.
func TestJoin(t *testing.T) {
	for sapi := range lastSAPI + 1 {
		for tei := range lastTEI + 1 {
			m, l := mux.New(1), link(sapi, tei)
			holdJoin(t, m, api.OK, sapi-tei, l)
			holdRoute(t, m, l, sapi-tei)
			holdRoute(t, m, link(sapi, broadcast), sapi-tei)
			holdLinks(t, m, sapi-tei, l)
		}
	}
}

// P17.1: a link whose SAPI, or TEI, or both are none for a mux is ErrArg, also where the mux is full.
func TestJoinWrong(t *testing.T) {
	some := map[addr.Link]int{link(0, 0): 1, link(63, 126): 1, link(16, 64): -1}
	for _, most := range []int{3, 4, mostLinks} {
		m := joined(t, most, some)
		for _, l := range badLinks() {
			holdJoin(t, m, api.ErrArg, 1, l)
			holdJoin(t, m, api.ErrArg, 2, l)
		}
		holdHas(t, m, some)
	}
	m := mux.New(1)
	for _, l := range badLinks() {
		holdJoin(t, m, api.ErrArg, 1, l)
	}
	holdHas(t, m, nil)
	holdJoin(t, m, api.OK, 1, link(0, 0))
}

// P17.1: a link that somebody has is ErrThere, by the same id and by another one, also where the mux is full; who has it has it still.
func TestJoinThere(t *testing.T) {
	some := map[addr.Link]int{link(0, 64): 3, link(0, 65): 3, link(16, 64): 4, link(63, 126): math.MinInt, link(0, 0): 0}
	for _, most := range []int{5, 6, mostLinks} {
		m := joined(t, most, some)
		for l := range some {
			for _, id := range append([]int{3, 4}, ids...) {
				holdJoin(t, m, api.ErrThere, id, l, l)
			}
		}
		holdHas(t, m, some)
	}
}

// P17.1: a link that nobody has is ErrFull in a full mux, and nobody has it then.
func TestJoinFull(t *testing.T) {
	some := map[addr.Link]int{link(0, 64): 3, link(0, 65): 3, link(16, 64): 4}
	m := joined(t, 3, some)
	for _, l := range links([2]int{0, 66}, [2]int{16, 65}, [2]int{1, 64}, [2]int{63, 0}, [2]int{0, 0}, [2]int{63, 126}) {
		for _, id := range []int{3, 4, 5, -1, 0} {
			holdJoin(t, m, api.ErrFull, id, l)
		}
		holdLeave(t, m, false, l)
	}
	holdHas(t, m, some)
}

// P17.1: a refused Join takes no room.
func TestJoinRefusedCounts(t *testing.T) {
	m := mux.New(4)
	for i, l := range row(4) {
		for range 10 {
			holdJoin(t, m, api.ErrArg, 1, link(0, broadcast), link(-1, 0))
		}
		holdJoin(t, m, api.OK, 1, l)
		for range 10 {
			holdJoin(t, m, api.ErrThere, 2, row(i+1)...)
		}
	}
	holdJoin(t, m, api.ErrFull, 1, link(63, 126))
	holdDrop(t, m, 2, 0)
	holdDrop(t, m, 1, 4)
}

// P17.1: every int may be an id, one beside the others, and each has its own links alone.
func TestIDs(t *testing.T) {
	m, some := mux.New(mostLinks), map[addr.Link]int{}
	for i, l := range row(len(ids) * 3) {
		id := ids[i*5%len(ids)]
		holdJoin(t, m, api.OK, id, l)
		some[l] = id
	}
	holdHas(t, m, some)
	for _, id := range ids {
		holdDrop(t, m, id, 3)
		for l, its := range some {
			if its == id {
				delete(some, l)
			}
		}
		holdHas(t, m, some)
	}
}

// P17.2: Leave of a link that somebody has, once more, and its being had again, by the same id and by another one.
func TestLeave(t *testing.T) {
	some := map[addr.Link]int{link(0, 64): 3, link(0, 65): 3, link(16, 64): 4, link(0, 0): -5}
	for l := range some {
		for _, id := range []int{3, 4, 9} {
			m, left := joined(t, 4, some), map[addr.Link]int{}
			for other, its := range some {
				if other != l {
					left[other] = its
				}
			}
			holdLeave(t, m, true, l)
			holdHas(t, m, left)
			holdLeave(t, m, false, l, l)
			holdHas(t, m, left)
			holdJoin(t, m, api.OK, id, l)
			left[l] = id
			holdHas(t, m, left)
		}
	}
}

// P17.2: Leave of a link that nobody has, though its SAPI, its TEI, or both the other way round are those of one that somebody has, and of one that is none for a mux.
func TestLeaveNone(t *testing.T) {
	some := map[addr.Link]int{link(0, 64): 3, link(0, 65): 3, link(16, 64): 4, link(5, 6): 4}
	m := joined(t, 9, some)
	holdLeave(t, m, false, links([2]int{16, 65}, [2]int{1, 64}, [2]int{0, 63}, [2]int{0, 66}, [2]int{6, 5}, [2]int{0, 0}, [2]int{63, 126})...)
	holdLeave(t, m, false, link(0, broadcast), link(16, broadcast), link(5, broadcast), link(64, 0), link(-1, 0))
	holdLeave(t, m, false, badLinks()...)
	holdHas(t, m, some)
}

// P17.2: Drop of an id with none, with one and with many, and again.
func TestDrop(t *testing.T) {
	for _, many := range []int{1, 2, 3, 10, 63, 64, 100, 126} {
		m, all := mux.New(mostLinks), row(many+2)
		holdJoin(t, m, api.OK, 1, all[0])
		holdJoin(t, m, api.OK, -7, all[2:]...)
		holdJoin(t, m, api.OK, math.MaxInt, all[1])
		for _, id := range []int{0, 2, 7, -8, 65, 1<<32 + 1, 1<<32 - 7, math.MaxInt - 1, math.MinInt} {
			holdDrop(t, m, id, 0)
		}
		holdDrop(t, m, -7, many)
		holdDrop(t, m, -7, 0)
		holdLeave(t, m, false, all[2:]...)
		holdHas(t, m, map[addr.Link]int{all[0]: 1, all[1]: math.MaxInt})
		holdDrop(t, m, 1, 1)
		holdDrop(t, m, 1, 0)
		holdHas(t, m, map[addr.Link]int{all[1]: math.MaxInt})
		holdDrop(t, m, math.MaxInt, 1)
		holdHas(t, m, nil)
	}
}

// P17.2: an id that dropped its links may have them again, and others may.
func TestDropAndJoin(t *testing.T) {
	m := joined(t, 3, map[addr.Link]int{link(0, 64): 3, link(0, 65): 3, link(16, 64): 4})
	holdDrop(t, m, 3, 2)
	holdJoin(t, m, api.OK, 3, link(0, 65))
	holdJoin(t, m, api.OK, 4, link(0, 64))
	holdJoin(t, m, api.ErrFull, 5, link(0, 66))
	holdDrop(t, m, 4, 2)
	holdDrop(t, m, 3, 1)
	holdHas(t, m, nil)
}

// P17.2: links that are left, some by Leave and the rest by Drop.
func TestLeaveAndDrop(t *testing.T) {
	m, all := mux.New(6), row(6)
	holdJoin(t, m, api.OK, 3, all...)
	holdLeave(t, m, true, all[1], all[4])
	holdDrop(t, m, 3, 4)
	holdLeave(t, m, false, all...)
	holdJoin(t, m, api.OK, 3, all...)
}

// P17.3: Route of Broadcast: of a SAPI that nobody has, one, many, and one more than once.
func TestRouteBroadcast(t *testing.T) {
	m := mux.New(20)
	holdRoute(t, m, link(0, broadcast))
	for _, x := range []struct {
		id   int
		l    addr.Link
		all  []int
		once string
	}{
		{5, link(0, 64), []int{5}, "one"}, {5, link(0, 65), []int{5}, "one, twice"}, {5, link(0, 0), []int{5}, "one, three times"},
		{3, link(0, 63), []int{3, 5}, "a lesser one"}, {9, link(0, 66), []int{3, 5, 9}, "a greater one"},
		{4, link(0, 126), []int{3, 4, 5, 9}, "one between"}, {9, link(0, 1), []int{3, 4, 5, 9}, "the last one, twice"},
		{3, link(0, 2), []int{3, 4, 5, 9}, "the first one, twice"}, {10, link(0, 3), []int{3, 4, 5, 9, 10}, "two digits"},
		{-1, link(0, 4), []int{-1, 3, 4, 5, 9, 10}, "below 0"}, {-10, link(0, 5), []int{-10, -1, 3, 4, 5, 9, 10}, "further below"},
		{math.MinInt, link(0, 6), []int{math.MinInt, -10, -1, 3, 4, 5, 9, 10}, "the least"},
		{math.MaxInt, link(0, 7), []int{math.MinInt, -10, -1, 3, 4, 5, 9, 10, math.MaxInt}, "the greatest"},
		{0, link(0, 8), []int{math.MinInt, -10, -1, 0, 3, 4, 5, 9, 10, math.MaxInt}, "0"},
		{77, link(1, 64), []int{math.MinInt, -10, -1, 0, 3, 4, 5, 9, 10, math.MaxInt}, "one of another SAPI"},
	} {
		holdJoin(t, m, api.OK, x.id, x.l)
		if got := m.Route(link(0, broadcast)); !slices.Equal(got, x.all) {
			t.Errorf("%s: Route = %d, want %d", x.once, got, x.all)
		}
	}
	holdRoute(t, m, link(1, broadcast), 77)
	for sapi := 2; sapi <= lastSAPI; sapi++ {
		holdRoute(t, m, link(sapi, broadcast))
	}
}

// P17.3: as links are left, who has one more of that SAPI is told, and who has one of another SAPI alone isn't.
func TestRouteBroadcastLeft(t *testing.T) {
	m := joined(t, 9, map[addr.Link]int{link(0, 64): 5, link(0, 65): 5, link(1, 65): 5, link(0, 66): 3, link(63, 64): 3, link(0, 67): 8})
	holdLeave(t, m, true, link(0, 64))
	holdRoute(t, m, link(0, broadcast), 3, 5, 8)
	holdLeave(t, m, true, link(0, 65))
	holdRoute(t, m, link(0, broadcast), 3, 8)
	holdRoute(t, m, link(1, broadcast), 5)
	holdDrop(t, m, 3, 2)
	holdRoute(t, m, link(0, broadcast), 8)
	holdRoute(t, m, link(63, broadcast))
	holdDrop(t, m, 8, 1)
	holdRoute(t, m, link(0, broadcast))
	holdRoute(t, m, link(1, broadcast), 5)
}

// P17.3: ids that joined there and back, and out of order, are told rising; many of them, each several times.
func TestRouteBroadcastOrder(t *testing.T) {
	for _, step := range []int{1, 26, 2, 10, 16} { // none of them has a divisor with the number of ids in common
		m := mux.New(mostLinks)
		for i := range len(ids) * 4 {
			holdJoin(t, m, api.OK, ids[i*step%len(ids)], link(16, i))
		}
		holdRoute(t, m, link(16, broadcast), ids...)
	}
}

// P17.3: of a link that nobody has, and of one that is none for a mux, nobody is told; so also of Broadcast with a SAPI that is none.
func TestRouteNone(t *testing.T) {
	some := map[addr.Link]int{link(0, 64): 3, link(0, 65): 5, link(16, 64): 4, link(63, 0): 4, link(0, 126): 3, link(5, 6): 7}
	m := joined(t, 9, some)
	for _, l := range badLinks() {
		if l.TEI != broadcast || slices.Contains(badSAPIs, l.SAPI) {
			holdRoute(t, m, l)
		}
	}
	for _, l := range links([2]int{0, 66}, [2]int{0, 63}, [2]int{16, 65}, [2]int{1, 64}, [2]int{6, 5}, [2]int{63, 1}, [2]int{0, 125}) {
		holdRoute(t, m, l)
	}
	holdHas(t, m, some)
}

// P17.3: of a TEI other than Broadcast the one who has it alone is told, though others have links of that SAPI, and of that TEI.
func TestRouteOne(t *testing.T) {
	m, some := mux.New(mostLinks), map[addr.Link]int{}
	for sapi := range 4 {
		for _, tei := range []int{0, 1, 63, 64, 65, 125, 126} {
			some[link(sapi, tei)] = sapi*1000 - tei
			holdJoin(t, m, api.OK, sapi*1000-tei, link(sapi, tei))
		}
	}
	for l, id := range some {
		holdRoute(t, m, l, id)
	}
	holdHas(t, m, some)
}

// inOrder are links in order, by SAPI, and by TEI within one.
var inOrder = links(
	[2]int{0, 0}, [2]int{0, 1}, [2]int{0, 9}, [2]int{0, 10}, [2]int{0, 63}, [2]int{0, 64}, [2]int{0, 100}, [2]int{0, 126},
	[2]int{1, 0}, [2]int{1, 64}, [2]int{2, 1}, [2]int{9, 126}, [2]int{10, 2}, [2]int{16, 0}, [2]int{16, 64}, [2]int{16, 65},
	[2]int{17, 16}, [2]int{62, 126}, [2]int{63, 0}, [2]int{63, 64}, [2]int{63, 126},
)

// P17.3: Links of one, two and many, joined in order, there and back, and out of order, beside those of another id.
func TestLinks(t *testing.T) {
	for _, step := range []int{1, 20, 2, 4, 10, 13} { // none of them has a divisor with the number of links in common
		m, has := mux.New(mostLinks), []addr.Link{}
		holdJoin(t, m, api.OK, 8, link(0, 2), link(16, 1), link(63, 1))
		for i := range inOrder {
			l := inOrder[i*step%len(inOrder)]
			holdJoin(t, m, api.OK, -8, l)
			has = append(has, l)
			var want []addr.Link
			for _, l := range inOrder {
				if slices.Contains(has, l) {
					want = append(want, l)
				}
			}
			holdLinks(t, m, -8, want...)
		}
		holdLinks(t, m, 8, link(0, 2), link(16, 1), link(63, 1))
		for _, id := range []int{0, 7, 9, -7, -9, math.MinInt, math.MaxInt, 1<<32 + 8} {
			holdLinks(t, m, id)
		}
	}
}

// P17.3: two links stand in order by the SAPI where TEIs would have it otherwise, and by the TEI within one.
func TestLinksOfTwo(t *testing.T) {
	for _, x := range [][]addr.Link{
		links([2]int{0, 126}, [2]int{1, 0}), links([2]int{0, 64}, [2]int{0, 65}), links([2]int{9, 64}, [2]int{10, 3}),
		links([2]int{16, 9}, [2]int{16, 10}), links([2]int{62, 64}, [2]int{63, 64}), links([2]int{0, 0}, [2]int{63, 126}),
	} {
		for range 20 { // a map of two is gone through either way
			holdLinks(t, joined(t, 2, map[addr.Link]int{x[1]: 4, x[0]: 4}), 4, x...)
		}
	}
}

// P17.3: Links behind Leave and Drop.
func TestLinksLeft(t *testing.T) {
	m := mux.New(mostLinks)
	holdJoin(t, m, api.OK, 2, inOrder...)
	for i, l := range inOrder {
		holdLeave(t, m, true, l)
		holdLinks(t, m, 2, inOrder[i+1:]...)
	}
	holdJoin(t, m, api.OK, 2, inOrder...)
	holdDrop(t, m, 2, len(inOrder))
	holdLinks(t, m, 2)
}

// P17.3, rule 7: Route and Links change nothing, however often they are asked.
func TestAskedAgain(t *testing.T) {
	some := map[addr.Link]int{link(0, 64): 3, link(0, 65): 5, link(16, 64): 3, link(0, 1): 3}
	m := joined(t, 4, some)
	for range 50 {
		holdHas(t, m, some)
	}
	holdJoin(t, m, api.ErrFull, 3, link(0, 66))
}

// spoil: its caller writes over a list that was told, and behind it.
func spoil[T any](list []T, bad T) {
	_ = append(list, bad, bad, bad)
	for i := range list[:cap(list)] {
		list[:cap(list)][i] = bad
	}
}

// Rule 4: what the caller does with a list that was told changes neither the mux nor another list.
func TestListsChanged(t *testing.T) {
	for many := range 20 {
		m, some := mux.New(mostLinks), map[addr.Link]int{}
		for i := range many {
			some[link(i%2*16, i)] = ids[i/2]
			holdJoin(t, m, api.OK, ids[i/2], link(i%2*16, i))
		}
		for _, l := range links([2]int{0, broadcast}, [2]int{16, broadcast}, [2]int{0, 0}, [2]int{16, 1}) {
			one, two := m.Route(l), m.Route(l)
			want := slices.Clone(two)
			spoil(one, 99)
			if !slices.Equal(two, want) {
				t.Errorf("another list became %d, want %d", two, want)
			}
			holdRoute(t, m, l, want...)
		}
		for _, id := range ids {
			one, two := m.Links(id), m.Links(id)
			want := slices.Clone(two)
			spoil(one, link(5, 5))
			if !slices.Equal(two, want) {
				t.Errorf("another list became %v, want %v", two, want)
			}
			holdLinks(t, m, id, want...)
		}
		holdHas(t, m, some)
	}
}

// Rule 4: what the mux does later doesn't change a list that was told.
func TestListsKept(t *testing.T) {
	m := joined(t, 9, map[addr.Link]int{link(0, 64): 3, link(0, 65): 5, link(16, 64): 3})
	all, one, its := m.Route(link(0, broadcast)), m.Route(link(0, 64)), m.Links(3)
	holdDrop(t, m, 3, 2)
	holdJoin(t, m, api.OK, 4, link(0, 64), link(0, 1), link(2, 2), link(16, 64))
	m.Route(link(0, broadcast))
	m.Links(4)
	if !slices.Equal(all, []int{3, 5}) || !slices.Equal(one, []int{3}) || !slices.Equal(its, links([2]int{0, 64}, [2]int{16, 64})) {
		t.Errorf("the lists became %d, %d, %v", all, one, its)
	}
}

// P2: two muxes side by side, and one that is made while others are at work.
func TestSideBySide(t *testing.T) {
	a, b := mux.New(2), mux.New(3)
	holdJoin(t, a, api.OK, 1, link(0, 64), link(0, 65))
	holdHas(t, b, nil)
	holdJoin(t, b, api.OK, 2, link(0, 64))
	holdJoin(t, b, api.OK, 1, link(0, 66), link(16, 64))
	holdJoin(t, a, api.ErrFull, 1, link(0, 66))
	holdHas(t, a, map[addr.Link]int{link(0, 64): 1, link(0, 65): 1})
	c := mux.New(2)
	holdHas(t, c, nil)
	holdDrop(t, a, 1, 2)
	holdHas(t, b, map[addr.Link]int{link(0, 64): 2, link(0, 66): 1, link(16, 64): 1})
	holdJoin(t, a, api.OK, 7, link(0, 66))
	holdLeave(t, b, true, link(0, 66))
	holdHas(t, a, map[addr.Link]int{link(0, 66): 7})
	holdHas(t, b, map[addr.Link]int{link(0, 64): 2, link(16, 64): 1})
	holdHas(t, c, nil)
}
